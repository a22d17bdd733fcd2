"""Point 5: ratios."""

import copy
import unittest
from fractions import Fraction
from random import Random

from paceplan.errors import NoRatio
from paceplan.ratios import (falling_order, greatest, is_less, is_ratio, lesser, minus, over, plus, raised, ratio,
                             times, total, whole_parts)

LONG = 10 ** 199
SOME = ((0, 1), (1, 1), (-1, 1), (1, 2), (-1, 2), (2, 3), (-7, 6), (5, 4), (9, 1), (-9, 1), (1, 6))


def pair(fraction):
    return (fraction.numerator, fraction.denominator)


def random_ratios(seed, count):
    source = Random(seed)
    found = []
    for step in range(count):
        figures = source.choice((1, 1, 2, 5, 40, 200))
        top = source.randrange(-(10 ** figures) + 1, 10 ** figures)
        found.append(pair(Fraction(top, source.randrange(1, 10 ** figures))))
    return found


RATIOS = list(SOME) + random_ratios(5, 60) + [(LONG, 1), (-LONG, LONG - 1), (1, LONG)]


class RatioCase(unittest.TestCase):
    def assert_told(self, told, expected):
        """Equality to the kind: a tuple of two whole numbers, none of them a truth."""
        self.assertIs(type(told), tuple)
        self.assertEqual([type(part) for part in told], [int, int])
        self.assertEqual(told, expected)

    def assert_like_fractions(self, function, on_fractions, pairs):
        for one, other in pairs:
            with self.subTest(one=one, other=other):
                self.assert_told(function(one, other), pair(on_fractions(Fraction(*one), Fraction(*other))))


class IsRatio(unittest.TestCase):
    def assert_all(self, things, expected):
        for thing in things:
            with self.subTest(thing=thing):
                self.assertIs(is_ratio(thing), expected)

    def test_ratios(self):
        self.assert_all(RATIOS, True)

    def test_other_lengths(self):
        self.assert_all(((), (1,), (1, 1, 1), (0, 1, 2), (1, 2, 3, 4)), False)

    def test_lists(self):
        self.assert_all(([], [1, 2], [0, 1], [(1, 2)], ([1], 2), (1, [2]), ((1, 2), 1), (1, (1, 2))), False)

    def test_truths_in_either_place(self):
        self.assert_all(((True, 1), (False, 1), (1, True), (0, True), (True, True), (True, 2), (3, False)), False)

    def test_texts_and_none(self):
        self.assert_all(("", "1/2", "12", None, True, False, 0, 1, ("1", 2), (1, "2"), (None, 1), (1, None)), False)

    def test_bottoms_of_nought_and_below(self):
        self.assert_all(((1, 0), (0, 0), (-1, 0), (1, -1), (1, -2), (-1, -2), (0, -1), (LONG, -LONG - 1)), False)

    def test_noughts_with_another_bottom(self):
        self.assert_all(((0, 2), (0, 3), (0, LONG)), False)

    def test_pairs_that_a_number_divides(self):
        self.assert_all(((2, 2), (2, 4), (-2, 4), (6, 9), (-15, 5), (10, 4), (LONG, 2), (35, 49)), False)
        self.assert_all(((LONG, LONG), ((LONG - 1) * 7, 7 * LONG)), False)


class Making(RatioCase):
    def test_bottoms_above_nought(self):
        for top, bottom, expected in ((1, 2, (1, 2)), (2, 4, (1, 2)), (-6, 4, (-3, 2)), (0, 7, (0, 1)),
                                      (12, 4, (3, 1)), (7, 1, (7, 1)), (0, 1, (0, 1))):
            self.assert_told(ratio(top, bottom), expected)

    def test_bottoms_below_nought(self):
        for top, bottom, expected in ((1, -2, (-1, 2)), (-2, -4, (1, 2)), (6, -4, (-3, 2)), (0, -7, (0, 1)),
                                      (-12, -4, (3, 1)), (7, -1, (-7, 1))):
            self.assert_told(ratio(top, bottom), expected)

    def test_bottom_of_nought(self):
        for top in (0, 1, -1, LONG):
            with self.assertRaises(NoRatio):
                ratio(top, 0)

    def test_long_numbers(self):
        self.assert_told(ratio(LONG * 6, LONG * -4), (-3, 2))
        self.assert_told(ratio(LONG + 1, LONG), (LONG + 1, LONG))
        self.assert_told(ratio(10 ** 5000, 10 ** 4999 * 3), (10, 3))

    def test_what_is_made_is_a_ratio(self):
        for top in range(-8, 9):
            for bottom in (-6, -5, -4, -3, -2, -1, 1, 2, 3, 4, 5, 6):
                made = ratio(top, bottom)
                self.assert_told(made, pair(Fraction(top, bottom)))
                self.assertIs(is_ratio(made), True)


class Reckoning(RatioCase):
    def all_pairs(self):
        return [(one, other) for one in RATIOS for other in RATIOS]

    def test_sums(self):
        self.assert_told(plus((1, 2), (1, 3)), (5, 6))
        self.assert_told(plus((1, 2), (-1, 2)), (0, 1))
        self.assert_told(plus((1, 6), (1, 3)), (1, 2))
        self.assert_like_fractions(plus, lambda one, other: one + other, self.all_pairs())

    def test_differences(self):
        self.assert_told(minus((1, 2), (1, 3)), (1, 6))
        self.assert_told(minus((1, 3), (1, 2)), (-1, 6))
        self.assert_told(minus((5, 4), (5, 4)), (0, 1))
        self.assert_like_fractions(minus, lambda one, other: one - other, self.all_pairs())

    def test_products(self):
        self.assert_told(times((2, 3), (3, 2)), (1, 1))
        self.assert_told(times((-2, 3), (9, 4)), (-3, 2))
        self.assert_told(times((0, 1), (-9, 4)), (0, 1))
        self.assert_like_fractions(times, lambda one, other: one * other, self.all_pairs())

    def test_quotients(self):
        self.assert_told(over((1, 2), (3, 4)), (2, 3))
        self.assert_told(over((1, 2), (-3, 4)), (-2, 3))
        self.assert_told(over((-1, 2), (-3, 4)), (2, 3))
        self.assert_told(over((0, 1), (-3, 4)), (0, 1))
        pairs = [(one, other) for one, other in self.all_pairs() if other != (0, 1)]
        self.assert_like_fractions(over, lambda one, other: one / other, pairs)

    def test_quotient_by_nought(self):
        for one in RATIOS:
            with self.assertRaises(NoRatio):
                over(one, (0, 1))

    def test_powers(self):
        self.assert_told(raised((0, 1), 0), (1, 1))
        self.assert_told(raised((0, 1), 3), (0, 1))
        self.assert_told(raised((-2, 3), 3), (-8, 27))
        for one in RATIOS:
            for power in range(7):
                with self.subTest(one=one, power=power):
                    self.assert_told(raised(one, power), pair(Fraction(*one) ** power))

    def test_all_small_ones(self):
        small = sorted({pair(Fraction(top, bottom)) for top in range(-9, 10) for bottom in range(1, 13)})
        pairs = [(one, other) for one in small for other in small]
        self.assert_like_fractions(plus, lambda one, other: one + other, pairs)
        self.assert_like_fractions(minus, lambda one, other: one - other, pairs)
        self.assert_like_fractions(times, lambda one, other: one * other, pairs)

    def test_bottoms_that_share_much(self):
        for bottom in (LONG, 6 * LONG, 2 ** 200 * 3 ** 100):
            ones = [pair(Fraction(top, bottom)) for top in (1, -1, 6, 35, LONG - 1, -(2 ** 190))]
            pairs = [(one, other) for one in ones for other in ones]
            self.assert_like_fractions(plus, lambda one, other: one + other, pairs)
            self.assert_like_fractions(minus, lambda one, other: one - other, pairs)
            self.assert_like_fractions(over, lambda one, other: one / other, pairs)

    def test_what_is_told_may_be_handed_in_again(self):
        great = raised(RATIOS[-2], 6)
        self.assertIs(is_ratio(great), True)
        self.assert_told(minus(plus(great, great), great), great)


class Order(RatioCase):
    def test_either_way_round(self):
        for less, more in (((1, 3), (1, 2)), ((-1, 2), (-1, 3)), ((-1, 9), (0, 1)), ((0, 1), (1, 9)),
                           ((LONG - 1, LONG), (1, 1)), ((-9, 1), (1, 6))):
            self.assertIs(is_less(less, more), True)
            self.assertIs(is_less(more, less), False)
            self.assert_told(lesser(less, more), less)
            self.assert_told(lesser(more, less), less)

    def test_like_ones(self):
        for one in RATIOS:
            self.assertIs(is_less(one, one), False)

    def test_all(self):
        for one in RATIOS:
            for other in RATIOS:
                self.assertIs(is_less(one, other), Fraction(*one) < Fraction(*other))

    def test_total(self):
        for kind in (list, tuple):
            self.assert_told(total(kind([])), (0, 1))
            self.assert_told(total(kind([(-5, 4)])), (-5, 4))
            self.assert_told(total(kind([(1, 2), (1, 3), (1, 6)])), (1, 1))
            self.assert_told(total(kind([(1, 2), (-1, 2)])), (0, 1))
            self.assert_told(total(kind([(1, 6), (1, 6), (1, 6)])), (1, 2))
            self.assert_told(total(kind([(1, 6), (1, 2), (1, 6), (-3, 2), (1, 6)])), (-1, 2))
            self.assert_told(total(kind([(1, 6), (5, 1), (-1, 6), (-5, 1)])), (0, 1))
            self.assert_told(total(kind(RATIOS)), pair(sum([Fraction(*one) for one in RATIOS])))

    def test_whole_parts(self):
        for kind in (list, tuple):
            self.assertEqual(whole_parts(kind([])), [])
            self.assertEqual(whole_parts(kind([(3, 1), (0, 1)])), [3, 0])
            self.assertEqual(whole_parts(kind([(1, 4), (-5, 6), (2, 1)])), [3, -10, 24])

    def test_falling_order(self):
        for kind in (list, tuple):
            self.assertEqual(falling_order(kind([])), [])
            self.assertEqual(falling_order(kind([(1, 3), (1, 2), (2, 5), (-1, 2)])), [1, 2, 0, 3])
            places = falling_order(kind(RATIOS))
            self.assertEqual([RATIOS[place] for place in places], sorted(RATIOS, key=lambda one: -Fraction(*one)))
        self.assertEqual(sorted(falling_order([(1, 2), (2, 1), (1, 2)])), [0, 1, 2])

    def test_greatest(self):
        for kind in (list, tuple):
            self.assert_told(greatest(kind([(-5, 4)])), (-5, 4))
            self.assert_told(greatest(kind([(1, 3), (1, 2), (2, 5)])), (1, 2))
            self.assert_told(greatest(kind([(1, 2), (1, 3)])), (1, 2))
            self.assert_told(greatest(kind([(1, 3), (1, 2)])), (1, 2))
            self.assert_told(greatest(kind([(-1, 2), (-1, 3), (-1, 2)])), (-1, 3))
            self.assert_told(greatest(kind([(1, 2), (1, 2)])), (1, 2))
            self.assert_told(greatest(kind(RATIOS)), pair(max([Fraction(*one) for one in RATIOS])))

    def test_lists_stay_as_they_are(self):
        some = list(RATIOS)
        kept = copy.deepcopy(some)
        total(some)
        greatest(some)
        self.assertEqual(some, kept)
        thing = [[1, 2], (2, 4)]
        is_ratio(thing)
        self.assertEqual(thing, [[1, 2], (2, 4)])


if __name__ == "__main__":
    unittest.main()

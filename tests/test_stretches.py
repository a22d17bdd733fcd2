"""Points 16, 17 and 18: weights and densities, the tightest stretch, layers and speeds of works."""

import unittest
from fractions import Fraction
from random import Random

from paceplan.stretches import density, layer_speeds, layers, tightest, weight
from support import NOUGHT, ONE, Case, fraction, pair, speeds_told, works_from

ALL = tuple(range(24))
HALF = (1, 2)


def turns_of(first, last):
    return tuple(range(first, last + 1))


def weighed(works, turns):
    return sum([fraction(amount) for first, last, amount in works if set(range(first, last + 1)) <= set(turns)],
               Fraction(0))


def tightest_by_search(works, left):
    """The tightest stretch by its words: all stretches by density, then by beginning, then by length."""
    kept = [set(range(first, last + 1)) & set(left) for first, last, amount in works]
    ranked = []
    for begin in left:
        for end in left:
            stretch = tuple([turn for turn in left if begin <= turn <= end])
            if stretch:
                inside = tuple([number for number, window in enumerate(kept) if window and window <= set(stretch)])
                load = sum([fraction(works[number][2]) for number in inside], Fraction(0))
                ranked.append((load / len(stretch), -begin, len(stretch), stretch, inside))
    best = max(ranked)
    return (best[3], best[4])


def layers_by_search(works):
    left = ALL
    told = []
    while any(first <= turn <= last for first, last, amount in works for turn in left):
        told.append(tightest_by_search(works, left))
        left = tuple([turn for turn in left if turn not in told[-1][0]])
    return tuple(told)


class Weights(Case):
    WORKS = ((2, 4, ONE), (3, 3, HALF), (3, 8, (2, 3)), (0, 23, (5, 1)), (20, 23, (1, 7)))

    def assert_weight(self, told, turns):
        self.assert_told(told, weight, self.WORKS, turns)
        if turns:
            self.assert_told(pair(fraction(told) / len(turns)), density, self.WORKS, turns)

    def test_of_no_turns(self):
        self.assert_weight(NOUGHT, ())
        self.assert_told(NOUGHT, weight, (), ())

    def test_of_no_works(self):
        self.assert_told(NOUGHT, weight, (), ALL)
        self.assert_told(NOUGHT, density, (), ALL)

    def test_windows_that_lie_in_them_whole(self):
        self.assert_weight((1, 2), (3,))
        self.assert_weight((3, 2), (2, 3, 4))
        self.assert_weight((3, 2), (1, 2, 3, 4, 5))
        self.assert_weight((13, 6), turns_of(2, 8))
        self.assert_weight((307, 42), ALL)

    def test_windows_that_lie_in_them_in_part(self):
        self.assert_weight((1, 2), (2, 3))
        self.assert_weight((1, 2), (3, 4))
        self.assert_weight(NOUGHT, (2, 4))
        self.assert_weight((7, 6), turns_of(3, 22))
        self.assert_weight((97, 42), turns_of(1, 23))

    def test_windows_that_do_not_lie_in_them(self):
        self.assert_weight(NOUGHT, (9,))
        self.assert_weight(NOUGHT, (0, 1, 9, 10, 19))

    def test_turns_with_gaps(self):
        self.assert_weight((1, 2), (3, 20, 23))
        self.assert_weight((9, 14), (3, 20, 21, 22, 23))
        self.assert_weight((23, 14), (0, 2, 3, 4, 6, 20, 21, 22, 23))
        self.assert_weight(NOUGHT, (2, 4, 5, 6, 7, 8, 20, 22, 23))

    def test_many(self):
        source = Random(29)
        for step in range(200):
            works = works_from(source, source.randrange(21))
            turns = tuple(sorted(source.sample(ALL, source.randrange(1, 25))))
            self.assert_told(pair(weighed(works, turns)), weight, works, turns)
            self.assert_told(pair(weighed(works, turns) / len(turns)), density, works, turns)


class Tightest(Case):
    def test_of_all_turns(self):
        self.assert_told(((5,), (0,)), tightest, ((5, 5, HALF),), ALL)
        self.assert_told((turns_of(2, 6), (0,)), tightest, ((2, 6, ONE),), ALL)
        self.assert_told((ALL, (0,)), tightest, ((0, 23, ONE),), ALL)
        self.assert_told((turns_of(3, 4), (1,)), tightest, ((0, 9, (4, 1)), (3, 4, (3, 1))), ALL)

    def test_of_like_densities_the_one_that_begins_first(self):
        self.assert_told(((2,), (1,)), tightest, ((9, 9, ONE), (2, 2, ONE)), ALL)
        self.assert_told(((2, 3), (1,)), tightest, ((9, 9, ONE), (2, 3, (2, 1)), (5, 7, (3, 1))), ALL)

    def test_of_these_the_longest(self):
        self.assert_told(((2, 3, 4), (0, 1)), tightest, ((2, 2, ONE), (3, 4, (2, 1))), ALL)
        self.assert_told(((2, 3), (0, 1)), tightest, ((2, 2, ONE), (3, 3, ONE), (5, 5, ONE)), ALL)
        self.assert_told((turns_of(0, 5), (0, 1, 2)), tightest, ((0, 1, (2, 1)), (4, 5, (2, 1)), (0, 5, (2, 1))), ALL)

    def test_beginning_goes_ahead_of_length(self):
        self.assert_told(((0,), (1,)), tightest, ((3, 9, (7, 1)), (0, 0, ONE)), ALL)

    def test_works_within_one_another(self):
        works = ((0, 23, ONE), (5, 10, ONE), (7, 8, ONE), (8, 8, HALF))
        self.assert_told(((7, 8), (2, 3)), tightest, works, ALL)

    def test_with_turns_left_out(self):
        works = ((0, 5, (3, 1)), (4, 9, (2, 1)), (2, 3, (1, 1)))
        left = (0, 1, 4, 5, 6, 7, 8, 9)
        # What is left of the first window has a gap: turns 0, 1, 4, 5 lie side by side now.
        self.assert_told(((0, 1, 4, 5), (0,)), tightest, works, left)
        self.assert_told(((4, 5), (0,)), tightest, works, (4, 5, 6, 7, 8, 9))
        self.assert_told(((0,), (0,)), tightest, works, (0, 9, 20))

    def test_windows_that_are_void(self):
        works = ((2, 3, (9, 1)), (0, 9, ONE))
        self.assert_told(((0, 1, 4, 9), (1,)), tightest, works, (0, 1, 4, 9))
        self.assert_told(((9,), (1,)), tightest, works, (9,))
        self.assert_told(((9,), (1,)), tightest, works, (9, 15))
        self.assert_told(((9,), (1,)), tightest, works, (9, 15, 16))

    def test_a_void_window_lies_in_no_stretch(self):
        works = ((2, 3, ONE), (10, 11, ONE), (2, 2, ONE))
        self.assert_told(((10,), (1,)), tightest, works, (0, 1, 4, 10, 12))

    def test_many_against_search(self):
        source = Random(30)
        for step in range(150):
            works = works_from(source, source.randrange(1, 9), 2)
            left = tuple(sorted(source.sample(ALL, source.randrange(6, 25))))
            if any(first <= turn <= last for first, last, amount in works for turn in left):
                self.assert_told(tightest_by_search(works, left), tightest, works, left)

    def test_like_densities_against_search(self):
        source = Random(31)
        for step in range(150):
            works = tuple([(first, min(23, first + length), (length + 1, 1))
                           for first, length in [(source.randrange(24), source.randrange(4)) for work in range(4)]])
            left = tuple(sorted(source.sample(ALL, source.randrange(12, 25))))
            if any(first <= turn <= last for first, last, amount in works for turn in left):
                self.assert_told(tightest_by_search(works, left), tightest, works, left)


class Layers(Case):
    def assert_layers(self, told, speeds, works):
        self.assert_told(told, layers, works)
        self.assert_told(speeds_told(speeds), layer_speeds, works)

    def test_of_no_works(self):
        self.assert_layers((), {}, ())

    def test_of_one_work(self):
        self.assert_layers((((7,), (0,)),), {7: HALF}, ((7, 7, HALF),))
        self.assert_layers(((ALL, (0,)),), {turn: (1, 8) for turn in ALL}, ((0, 23, (3, 1)),))
        self.assert_layers(((turns_of(20, 23), (0,)),), {turn: (1, 28) for turn in turns_of(20, 23)},
                           ((20, 23, (1, 7)),))

    def test_windows_alike(self):
        works = ((3, 5, ONE), (3, 5, HALF), (3, 5, (2, 1)))
        self.assert_layers((((3, 4, 5), (0, 1, 2)),), {3: (7, 6), 4: (7, 6), 5: (7, 6)}, works)

    def test_windows_within_one_another(self):
        works = ((2, 7, (2, 1)), (4, 5, (3, 1)))
        self.assert_layers((((4, 5), (1,)), ((2, 3, 6, 7), (0,))),
                           {2: HALF, 3: HALF, 4: (3, 2), 5: (3, 2), 6: HALF, 7: HALF}, works)

    def test_a_loose_inner_window_is_in_one_layer_with_the_outer(self):
        works = ((2, 5, (4, 1)), (3, 4, HALF))
        self.assert_layers((((2, 3, 4, 5), (0, 1)),), {turn: (9, 8) for turn in (2, 3, 4, 5)}, works)

    def test_crossing_windows(self):
        works = ((0, 3, (4, 1)), (2, 5, (8, 1)))
        self.assert_layers((((0, 1, 2, 3, 4, 5), (0, 1)),), {turn: (2, 1) for turn in range(6)}, works)
        works = ((0, 3, (1, 1)), (2, 5, (8, 1)))
        self.assert_layers((((2, 3, 4, 5), (1,)), ((0, 1), (0,))),
                           {0: HALF, 1: HALF, 2: (2, 1), 3: (2, 1), 4: (2, 1), 5: (2, 1)}, works)

    def test_windows_apart(self):
        works = ((20, 21, ONE), (0, 0, (1, 3)), (9, 9, ONE))
        self.assert_layers((((9,), (2,)), ((20, 21), (0,)), ((0,), (1,))),
                           {9: ONE, 20: HALF, 21: HALF, 0: (1, 3)}, works)

    def test_like_densities_one_behind_the_other(self):
        works = ((9, 9, ONE), (2, 2, ONE), (5, 6, (2, 1)))
        self.assert_layers((((2,), (1,)), ((5, 6), (2,)), ((9,), (0,))), {2: ONE, 5: ONE, 6: ONE, 9: ONE}, works)

    def test_turns_that_lie_side_by_side_when_others_are_taken_out(self):
        works = ((4, 6, (9, 1)), (3, 4, ONE), (6, 8, (3, 1)), (2, 8, HALF))
        self.assert_layers((((4, 5, 6), (0,)), ((7, 8), (2,)), ((3,), (1,)), ((2,), (3,))),
                           {2: HALF, 3: ONE, 4: (3, 1), 5: (3, 1), 6: (3, 1), 7: (3, 2), 8: (3, 2)}, works)

    def test_many_against_search(self):
        source = Random(32)
        for step in range(60):
            works = works_from(source, source.randrange(1, 21), 3)
            told = layers_by_search(works)
            self.assert_told(told, layers, works)
            speeds = {}
            for turns, numbers in told:
                load = sum([fraction(works[number][2]) for number in numbers])
                speeds.update({turn: pair(load / len(turns)) for turn in turns})
            self.assert_told(speeds_told(speeds), layer_speeds, works)

    def test_what_is_said_of_layers(self):
        source = Random(33)
        for step in range(100):
            works = works_from(source, source.randrange(21))
            told = layers(works)
            loads = [sum([fraction(works[number][2]) for number in numbers]) / len(turns) for turns, numbers in told]
            self.assertEqual(loads, sorted(loads, reverse=True))
            self.assertEqual(sorted([number for turns, numbers in told for number in numbers]),
                             list(range(len(works))))
            standing = [turn for turns, numbers in told for turn in turns]
            self.assertEqual(len(standing), len(set(standing)))
            self.assertEqual(set(standing), {turn for first, last, amount in works for turn in range(first, last + 1)})
            speeds = layer_speeds(works)
            self.assertEqual([turn for turn in ALL if speeds[turn] == NOUGHT],
                             [turn for turn in ALL if turn not in standing])

    def test_a_work_more_lowers_the_speed_of_no_turn(self):
        source = Random(34)
        for step in range(150):
            works = works_from(source, source.randrange(1, 21))
            fewer = layer_speeds(works[:-1])
            for before, behind in zip(fewer, layer_speeds(works)):
                self.assertLessEqual(fraction(before), fraction(behind))

    def test_long_amounts(self):
        source = Random(35)
        works = tuple([(number, number + 3, pair(Fraction(source.randrange(1, 10 ** 199), 10 ** 199 + 2 * number + 1)))
                       for number in range(20)])
        self.assertEqual(layers(works), layers_by_search(works))
        self.assertEqual(sum([fraction(speed) for speed in layer_speeds(works)]),
                         sum([fraction(work[2]) for work in works]))


if __name__ == "__main__":
    unittest.main()

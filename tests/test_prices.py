"""Points 23, 24 and 25: prices of works, their bound, and the power of several hands."""

import unittest
from fractions import Fraction
from random import Random

from paceplan.errors import NoPrice, NoSpeed
from paceplan.plans import power_of, speeds_of
from paceplan.prices import hands_power, price_bound, right_prices, turn_power
from paceplan.rules import power_at
from support import (NO_RATIOS, NOUGHT, ONE, STRAYS, Case, fraction, pair, plan_of, price_from, ratio_from,
                     table_from, works_and_plan, works_from)

HALF = (1, 2)
TINY = Fraction(1, 10 ** 30)
SQUARE = ("power", 2)
RULES = (SQUARE, ("power", 3), ("power", 4))
# Slopes 1 and 2, a power above nought at nought, the greatest speed 3.
TABLE = ("table", ((NOUGHT, ONE), (ONE, (2, 1)), ((3, 1), (6, 1))))
WORK = (0, 5, ONE)


def bound_by_words(works, rule, hands, prices):
    """The bound in Fractions, turn by turn and hand by hand."""
    so_far = sum([fraction(price[1]) * fraction(work[2]) for work, price in zip(works, prices)], Fraction(0))
    for turn in range(24):
        there = [price for work, price in zip(works, prices) if work[0] <= turn <= work[1]]
        there.sort(key=lambda price: fraction(price[1]), reverse=True)
        for hand in range(hands):
            if hand < len(there):
                speed, slope = there[hand]
                so_far += fraction(power_at(rule, speed)) - fraction(slope) * fraction(speed)
            else:
                so_far += fraction(power_at(rule, NOUGHT))
    return pair(so_far)


def hand_speeds_by_words(hands, amounts):
    """The hands' speeds in Fractions, the greatest amount taken out as long as it is more than the mean."""
    left = [fraction(amount) for amount in amounts]
    speeds = []
    while left and max(left) > sum(left) / (hands - len(speeds)):
        speeds.append(max(left))
        left.remove(max(left))
    rest = hands - len(speeds)
    return speeds + [sum(left, Fraction(0)) / rest] * rest


class RightPrices(Case):
    def let_by(self, rule, *prices):
        self.assert_told(True, right_prices, (WORK,) * len(prices), rule, prices)

    def refuse(self, number, rule, *prices):
        self.assert_refused(NoPrice(number), right_prices, (WORK,) * len(prices), rule, prices)

    def test_of_no_works(self):
        for rule in RULES + (TABLE,):
            self.let_by(rule)

    def test_of_powers(self):
        self.let_by(SQUARE, (NOUGHT, NOUGHT), (ONE, (2, 1)), ((3, 2), (3, 1)))
        self.let_by(("power", 3), (NOUGHT, NOUGHT), (HALF, (3, 4)), ((2, 1), (12, 1)))
        self.let_by(("power", 4), (NOUGHT, NOUGHT), (HALF, HALF), ((10 ** 30, 1), (4 * 10 ** 90, 1)))

    def test_of_powers_with_another_slope(self):
        for rule, speed, slope in ((SQUARE, (3, 2), 3), (("power", 3), (2, 1), 12), (("power", 4), ONE, 4),
                                   (SQUARE, NOUGHT, 0)):
            self.refuse(0, rule, (speed, pair(slope - TINY)))
            self.refuse(0, rule, (speed, pair(slope + TINY)))

    def test_of_a_table_within_a_piece(self):
        for speed, slope in ((HALF, 1), ((1, 10 ** 30), 1), ((2, 1), 2), (pair(3 - TINY), 2)):
            self.let_by(TABLE, (speed, (slope, 1)))
            self.refuse(0, TABLE, (speed, pair(slope - TINY)))
            self.refuse(0, TABLE, (speed, pair(slope + TINY)))

    def test_of_a_table_at_its_rows(self):
        for speed, left, right in ((NOUGHT, 0, 1), (ONE, 1, 2)):
            for slope in (left, right, Fraction(left + right, 2), left + TINY, right - TINY):
                self.let_by(TABLE, (speed, pair(Fraction(slope))))
            self.refuse(0, TABLE, (speed, pair(left - TINY)))
            self.refuse(0, TABLE, (speed, pair(right + TINY)))

    def test_of_a_table_at_its_greatest_speed(self):
        for slope in (Fraction(2), 2 + TINY, Fraction(10 ** 60)):
            self.let_by(TABLE, ((3, 1), pair(slope)))
        self.refuse(0, TABLE, ((3, 1), pair(2 - TINY)))
        self.refuse(0, TABLE, ((3, 1), NOUGHT))

    def test_no_such_speed(self):
        self.refuse(0, SQUARE, ((-1, 1), (-2, 1)))
        self.refuse(0, TABLE, ((-1, 2), NOUGHT))
        self.refuse(0, TABLE, (pair(-TINY), NOUGHT))
        self.refuse(0, TABLE, (pair(3 + TINY), (2, 1)))
        self.refuse(0, TABLE, ((10 ** 60, 1), (10 ** 60, 1)))
        self.refuse(0, TABLE, (ONE, (-1, 1)))

    def test_the_least_such_work(self):
        good = (ONE, (2, 1))
        self.refuse(2, SQUARE, good, good, (ONE, ONE), good, ((-1, 1), ONE))
        self.refuse(1, TABLE, good, ((4, 1), (2, 1)), ((-1, 1), NOUGHT), (ONE, (3, 1)))
        self.refuse(0, TABLE, (ONE, (3, 1)), ((4, 1), (2, 1)), good)
        self.refuse(2, TABLE, good, good, ((-1, 1), NOUGHT))

    def test_any_thing(self):
        for thing in STRAYS:
            self.assert_refused(NoPrice(-1), right_prices, (WORK,) * 7, SQUARE, thing)
            if thing != ():
                self.assert_refused(NoPrice(-1), right_prices, (), SQUARE, thing)
            if thing != (((1, 1), (1, 1)),):
                self.assert_refused(NoPrice(-1), right_prices, (WORK,), SQUARE, thing)

    def test_pairs_more_or_fewer_than_works(self):
        price = (ONE, (2, 1))
        for count, told in ((0, 1), (1, 0), (1, 2), (2, 1), (20, 19), (20, 21)):
            self.assert_refused(NoPrice(-1), right_prices, (WORK,) * count, SQUARE, (price,) * told)
        self.assert_refused(NoPrice(-1), right_prices, (WORK,), SQUARE, price)

    def test_lists_and_no_pairs(self):
        price = (ONE, (2, 1))
        for thing in ([price, price], ([ONE, (2, 1)], price), (price, [ONE, (2, 1)]), (price, (ONE,)),
                      (price, (ONE, (2, 1), ONE)), (price, ()), (price, None), (price, "ab"), (price, True)):
            self.assert_refused(NoPrice(-1), right_prices, (WORK, WORK), SQUARE, thing)

    def test_parts_that_are_no_ratios(self):
        price = (ONE, (2, 1))
        for part in NO_RATIOS:
            for wrong in ((part, (2, 1)), (ONE, part)):
                self.assert_refused(NoPrice(-1), right_prices, (WORK, WORK), SQUARE, (wrong, price))
                self.assert_refused(NoPrice(-1), right_prices, (WORK, WORK), TABLE, (price, wrong))

    def test_the_shape_goes_ahead(self):
        self.refuse(-1, SQUARE, (ONE, ONE), (ONE, True))
        self.refuse(-1, TABLE, ((-1, 1), ONE), ((9, 1), ONE), (ONE, (2, 2)))
        self.assert_refused(NoPrice(-1), right_prices, (WORK,), SQUARE, ((ONE, ONE), (ONE, ONE)))

    def test_many(self):
        source = Random(231)
        for step in range(200):
            rule = source.choice(RULES + (table_from(source, source.randrange(2, 13)),))
            self.let_by(rule, *[price_from(source, rule) for number in range(source.randrange(21))])


class Bound(Case):
    def test_of_no_works(self):
        for hands in (1, 2, 3, 9):
            self.assert_told(NOUGHT, price_bound, (), SQUARE, hands, ())
            self.assert_told((24 * hands, 1), price_bound, (), TABLE, hands, ())

    def test_of_one_work(self):
        works = ((2, 4, (6, 1)),)
        # 4 times 6, and three turns of 4 less 4 times 2.
        self.assert_told((12, 1), price_bound, works, SQUARE, 1, (((2, 1), (4, 1)),))
        self.assert_told((12, 1), price_bound, works, SQUARE, 9, (((2, 1), (4, 1)),))
        self.assert_told((9, 1), price_bound, works, SQUARE, 1, (((1, 1), (2, 1)),))
        # 2 times 6, three turns of 4 less 2 times 2, and 1 for each hand at rest.
        self.assert_told((12 + 21, 1), price_bound, works, TABLE, 1, (((2, 1), (2, 1)),))
        self.assert_told((12 + 21 + 24, 1), price_bound, works, TABLE, 2, (((2, 1), (2, 1)),))

    def test_more_works_in_a_turn_than_hands(self):
        works = ((0, 0, ONE), (0, 1, ONE), (0, 0, ONE))
        prices = ((ONE, (2, 1)), ((3, 1), (6, 1)), ((2, 1), (4, 1)))
        self.assert_told((12 - 9 - 9, 1), price_bound, works, SQUARE, 1, prices)
        self.assert_told((12 - 9 - 9 - 4, 1), price_bound, works, SQUARE, 2, prices)
        self.assert_told((12 - 9 - 9 - 4 - 1, 1), price_bound, works, SQUARE, 3, prices)
        self.assert_told((12 - 9 - 9 - 4 - 1, 1), price_bound, works, SQUARE, 9, prices)

    def test_like_slopes_are_the_same_for_each(self):
        works = ((0, 0, ONE), (0, 0, ONE), (0, 1, ONE))
        one = (ONE, (2, 1))
        other = ((3, 1), (2, 1))
        between = ((5, 2), (2, 1))
        for hands in (1, 2, 3, 9):
            told = price_bound(works, TABLE, hands, (one, other, between))
            self.assert_told(told, price_bound, works, TABLE, hands, (other, between, one))
            self.assert_told(told, price_bound, works, TABLE, hands, (between, one, other))
            self.assert_told(bound_by_words(works, TABLE, hands, (one, one, one)), price_bound, works, TABLE, hands,
                             (one, other, between))

    def test_slopes_not_speeds_choose(self):
        works = ((0, 0, ONE), (0, 0, ONE))
        # At speed 3 a slope of 5, at speed 1 one of 2, at nought one of 1.
        self.assert_told((7 + 6 - 15 + 23, 1), price_bound, works, TABLE, 1, (((3, 1), (5, 1)), (ONE, (2, 1))))
        self.assert_told((3 + 2 - 2 + 23, 1), price_bound, works, TABLE, 1, ((NOUGHT, ONE), (ONE, (2, 1))))

    def test_by_the_words(self):
        source = Random(241)
        for step in range(150):
            works = works_from(source, source.randrange(21))
            rule = source.choice(RULES + (table_from(source, source.randrange(2, 13)),))
            prices = tuple([price_from(source, rule) for work in works])
            hands = source.choice((1, 2, 3, 9))
            self.assert_told(bound_by_words(works, rule, hands, prices), price_bound, works, rule, hands, prices)

    def test_no_plan_has_less_whoever_wrote_the_prices(self):
        source = Random(242)
        for step in range(150):
            works, plan = works_and_plan(source, 8)
            rule = source.choice(RULES)
            prices = tuple([price_from(source, rule) for work in works])
            for hands in (1, 2, 9):
                power = hands_power(rule, hands, plan)
                self.assertLessEqual(fraction(price_bound(works, rule, hands, prices)), fraction(power))


class TurnPower(Case):
    def test_of_no_amounts(self):
        for hands in (1, 2, 9):
            self.assert_told(NOUGHT, turn_power, SQUARE, hands, ())
            self.assert_told((hands, 1), turn_power, TABLE, hands, ())

    def test_of_one_amount(self):
        self.assert_told((9, 1), turn_power, SQUARE, 1, ((3, 1),))
        self.assert_told((9, 1), turn_power, SQUARE, 2, ((3, 1),))
        self.assert_told((9, 1), turn_power, SQUARE, 9, ((3, 1),))
        self.assert_told((6 + 8, 1), turn_power, TABLE, 9, ((3, 1),))

    def test_one_hand_has_the_turns_speed(self):
        self.assert_told((36, 1), turn_power, SQUARE, 1, (ONE, (2, 1), (3, 1)))
        self.assert_told((49, 4), turn_power, SQUARE, 1, ((3, 1), HALF))

    def test_fewer_amounts_than_hands(self):
        self.assert_told((5, 1), turn_power, SQUARE, 3, (ONE, (2, 1)))
        self.assert_told((2 + 4 + 1, 1), turn_power, TABLE, 3, (ONE, (2, 1)))

    def test_as_many_amounts_as_hands(self):
        self.assert_told((14, 1), turn_power, SQUARE, 3, ((2, 1), (3, 1), ONE))

    def test_more_amounts_than_hands(self):
        self.assert_told((12, 1), turn_power, SQUARE, 3, ((2, 1), (2, 1), ONE, ONE))
        self.assert_told((25, 2), turn_power, SQUARE, 2, ((2, 1), ONE, ONE, ONE))

    def test_one_much_greater_than_the_mean(self):
        self.assert_told((100 + 4, 1), turn_power, SQUARE, 2, (ONE, (10, 1), ONE))
        self.assert_told((200 + 9, 2), turn_power, SQUARE, 3, (ONE, ONE, (10, 1), ONE))

    def test_several_one_behind_the_other(self):
        amounts = (ONE, (4, 1), ONE, (20, 1), ONE, (9, 1))
        self.assert_told((400 + 81 + 16 + 9, 1), turn_power, SQUARE, 4, amounts)
        self.assert_told((800 + 162 + 32 + 9, 2), turn_power, SQUARE, 5, amounts)
        self.assert_told((400 + 81 + 49, 1), turn_power, SQUARE, 3, amounts)
        self.assert_told((400 + 256, 1), turn_power, SQUARE, 2, amounts)

    def test_all_alike(self):
        self.assert_told((4, 1), turn_power, SQUARE, 4, (ONE,) * 4)
        self.assert_told((25, 4), turn_power, SQUARE, 4, (ONE,) * 5)
        self.assert_told((3, 1), turn_power, SQUARE, 4, (ONE,) * 3)

    def test_just_the_mean(self):
        self.assert_told((8, 1), turn_power, SQUARE, 2, ((2, 1), ONE, ONE))
        self.assert_told((25 + 8, 1), turn_power, SQUARE, 3, ((5, 1), (2, 1), ONE, ONE))

    def test_too_great_a_speed(self):
        self.assert_told((6, 1), turn_power, TABLE, 1, ((3, 1),))
        self.assert_told((12, 1), turn_power, TABLE, 2, ((3, 1), (2, 1), ONE))
        over = pair(3 + TINY)
        self.assert_refused(NoSpeed(over), turn_power, TABLE, 1, (over,))
        self.assert_refused(NoSpeed(over), turn_power, TABLE, 9, (over,))
        self.assert_refused(NoSpeed((7, 2)), turn_power, TABLE, 2, ((3, 1), (3, 1), ONE))
        self.assert_refused(NoSpeed((9, 1)), turn_power, TABLE, 3, ((4, 1), (9, 1), (5, 1)))
        self.assert_refused(NoSpeed((9, 1)), turn_power, TABLE, 2, ((4, 1), (9, 1), ONE))
        self.assert_refused(NoSpeed((6, 1)), turn_power, TABLE, 1, ((3, 1), (2, 1), ONE))

    def test_by_the_words(self):
        source = Random(251)
        for step in range(300):
            most = source.choice((1, 5, 20))
            amounts = tuple([ratio_from(source, most, 4) for number in range(source.randrange(12))])
            hands = source.choice((1, 2, 3, 5, 9))
            rule = source.choice(RULES + (table_from(source, source.randrange(2, 13)),))
            speeds = [pair(speed) for speed in hand_speeds_by_words(hands, amounts)]
            try:
                expected = power_of(rule, speeds)
            except NoSpeed:
                top = max(speeds, key=fraction)
                self.assert_refused(NoSpeed(top), turn_power, rule, hands, amounts)
            else:
                self.assert_told(expected, turn_power, rule, hands, amounts)

    def test_no_sharing_of_two_hands_has_less(self):
        # All ways to part three amounts between two hands, each work at one hand at a time, on a grid.
        for amounts in ((3, 2, 1), (4, 1, 1), (5, 1, 1), (2, 2, 2), (6, 1, 0)):
            told = fraction(turn_power(SQUARE, 2, tuple([(amount, 1) for amount in amounts if amount > 0])))
            whole = sum(amounts)
            ways = [Fraction(first, 4) for first in range(4 * whole + 1)]
            # A hand goes at one speed; the greatest amount is done by at most all of the faster hand.
            fit = [way ** 2 + (whole - way) ** 2 for way in ways if max(way, whole - way) >= max(amounts)]
            self.assertEqual(told, min(fit))


class HandsPower(Case):
    def test_of_empty_turns(self):
        for hands in (1, 2, 9):
            self.assert_told(NOUGHT, hands_power, SQUARE, hands, plan_of({}))
            self.assert_told((24 * hands, 1), hands_power, TABLE, hands, plan_of({}))

    def test_the_sum_of_the_turns(self):
        plan = plan_of({3: [(1, ONE), (0, (2, 1)), (2, (3, 1))], 20: [(2, HALF)]})
        self.assert_told((145, 4), hands_power, SQUARE, 1, plan)
        self.assert_told((73, 4), hands_power, SQUARE, 2, plan)
        self.assert_told((57, 4), hands_power, SQUARE, 3, plan)
        self.assert_told((57, 4), hands_power, SQUARE, 9, plan)
        self.assert_told((22 + 6 + 5, 1), hands_power, TABLE, 1, plan_of({0: [(0, ONE), (1, (2, 1))],
                                                                          23: [(0, (5, 2))]}))

    def test_the_first_turn_with_too_great_a_speed(self):
        plan = plan_of({2: [(0, (3, 1))], 4: [(0, (4, 1)), (1, (5, 1))], 5: [(2, (9, 1))]})
        self.assert_refused(NoSpeed((9, 1)), hands_power, TABLE, 1, plan)
        self.assert_refused(NoSpeed((5, 1)), hands_power, TABLE, 2, plan)
        self.assert_refused(NoSpeed((5, 1)), hands_power, TABLE, 9, plan)
        self.assert_refused(NoSpeed((9, 1)), hands_power, TABLE, 2, plan_of({5: [(2, (9, 1))], 7: [(1, (99, 1))]}))

    def test_one_hand_has_the_power_of_the_speeds(self):
        source = Random(252)
        for step in range(60):
            plan = works_and_plan(source, 11)[1]
            for rule in RULES:
                self.assert_told(power_of(rule, speeds_of(plan)), hands_power, rule, 1, plan)

    def test_more_hands_have_no_more_power(self):
        source = Random(253)
        for step in range(30):
            plan = works_and_plan(source, 11)[1]
            for rule in RULES:
                powers = [fraction(hands_power(rule, hands, plan)) for hands in range(1, 10)]
                self.assertEqual(powers, sorted(powers, reverse=True))


if __name__ == "__main__":
    unittest.main()

"""Point 26: the checker of a plan beside its prices."""

import unittest
from fractions import Fraction
from random import Random

from paceplan.dealing import least_plan
from paceplan.errors import NoLeast, NoPlan, NoPrice, NoSpeed
from paceplan.leastchecker import least_asked
from paceplan.plans import power_of, speeds_of
from paceplan.prices import hands_power, price_bound, right_prices
from paceplan.rules import plain_slope
from support import (NOUGHT, ONE, STRAYS, Case, fraction, high_table, pair, plan_of, price_from, speeds_of_layers,
                     table_from, works_and_plan, works_from)

HALF = (1, 2)
SQUARE = ("power", 2)
RULES = (SQUARE, ("power", 3), ("power", 4))
# Slopes 1 and 2, the greatest speed 3.
TABLE = ("table", ((NOUGHT, ONE), (ONE, (2, 1)), ((3, 1), (6, 1))))
WORKS = ((0, 1, (2, 1)), (1, 1, (2, 1)))
LEAST = plan_of({0: [(0, (2, 1))], 1: [(1, (2, 1))]})
# By a square a slope is twice the speed.
PRICES = (((2, 1), (4, 1)), ((2, 1), (4, 1)))
MORE = plan_of({0: [(0, ONE)], 1: [(0, ONE), (1, (2, 1))]})
WRONG = plan_of({0: [(0, ONE)], 1: [(1, (2, 1))]})


def prices_of_layers(works, rule):
    """For each work its layer's density and the plain slope there."""
    return tuple([(speed, plain_slope(rule, speed)) for speed in speeds_of_layers(works)])


def even_plan(works):
    """Each work evenly over its window."""
    turns = {}
    for number, (first, last, amount) in enumerate(works):
        for turn in range(first, last + 1):
            turns.setdefault(turn, []).append((number, pair(fraction(amount) / (last - first + 1))))
    return plan_of(turns)


def even_prices(works, rule):
    speeds = [pair(fraction(amount) / (last - first + 1)) for first, last, amount in works]
    return tuple([(speed, plain_slope(rule, speed)) for speed in speeds])


class LetBy(Case):
    def test_of_no_works(self):
        for rule in RULES + (TABLE,):
            for hands in (1, 2, 9):
                self.assert_told(True, least_asked, (), rule, hands, plan_of({}), ())

    def test_the_least_plan_of_one_hand(self):
        self.assert_told(True, least_asked, WORKS, SQUARE, 1, LEAST, PRICES)
        self.assert_told(True, least_asked, WORKS, TABLE, 1, LEAST, (((2, 1), (2, 1)),) * 2)

    def test_any_prices_with_that_bound(self):
        # On a table's piece the speeds of the prices may be others, and so may the plan's.
        prices = ((ONE, (2, 1)), ((3, 1), (2, 1)))
        self.assert_told(True, least_asked, WORKS, TABLE, 1, LEAST, prices)
        self.assert_told(True, least_asked, WORKS, TABLE, 1, MORE, prices)

    def test_the_least_plan_of_many_works(self):
        source = Random(261)
        for step in range(60):
            works = works_from(source, source.randrange(1, 21))
            plan = least_plan((works, ()))
            top = max(speeds_of(plan), key=fraction)
            for rule in RULES + (high_table(top), high_table(pair(fraction(top) * 2))):
                self.assert_told(True, least_asked, works, rule, 1, plan, prices_of_layers(works, rule))

    def test_as_many_hands_as_works(self):
        source = Random(262)
        for step in range(40):
            works = works_from(source, source.randrange(1, 10))
            prices = even_prices(works, SQUARE)
            top = max([price[0] for price in prices], key=fraction)
            for rule in RULES + (high_table(top),):
                for hands in (len(works), 9):
                    self.assert_told(True, least_asked, works, rule, hands, even_plan(works), even_prices(works, rule))


class Refused(Case):
    def test_any_plan(self):
        for thing in STRAYS:
            self.assert_refused(NoPlan("shape", -1), least_asked, WORKS, SQUARE, 1, thing, PRICES)
        self.assert_refused(NoPlan("shape", -1), least_asked, WORKS, SQUARE, 1, list(LEAST), PRICES)
        self.assert_refused(NoPlan("shape", -1), least_asked, WORKS, SQUARE, 1, LEAST[:23], PRICES)

    def test_plans_that_are_not_right(self):
        twice = plan_of({0: [(0, ONE), (0, ONE)], 1: [(1, (2, 1))]})
        out = plan_of({0: [(0, (2, 1)), (1, (2, 1))]})
        self.assert_refused(NoPlan("piece", 0), least_asked, WORKS, SQUARE, 1, twice, PRICES)
        self.assert_refused(NoPlan("piece", 0), least_asked, WORKS, SQUARE, 1, out, PRICES)
        self.assert_refused(NoPlan("amount", 0), least_asked, WORKS, SQUARE, 1, WRONG, PRICES)
        self.assert_refused(NoPlan("amount", 1), least_asked, WORKS, SQUARE, 1, plan_of({0: [(0, (2, 1))]}), PRICES)

    def test_any_prices(self):
        for thing in STRAYS:
            self.assert_refused(NoPrice(-1), least_asked, WORKS, SQUARE, 1, LEAST, thing)
        self.assert_refused(NoPrice(-1), least_asked, WORKS, SQUARE, 1, LEAST, list(PRICES))
        self.assert_refused(NoPrice(-1), least_asked, WORKS, SQUARE, 1, LEAST, PRICES[:1])

    def test_prices_that_are_not_right(self):
        self.assert_refused(NoPrice(1), least_asked, WORKS, SQUARE, 1, LEAST, (PRICES[0], ((2, 1), (5, 1))))
        self.assert_refused(NoPrice(0), least_asked, WORKS, TABLE, 1, LEAST, PRICES)

    def test_too_great_speeds(self):
        prices = (((3, 1), (2, 1)),) * 2
        fast = plan_of({0: [(0, HALF)], 1: [(0, (3, 2)), (1, (2, 1))]})
        self.assert_refused(NoSpeed((7, 2)), least_asked, WORKS, TABLE, 1, fast, prices)
        works = ((0, 1, (4, 1)), (1, 1, (2, 1)))
        plan = plan_of({0: [(0, (4, 1))], 1: [(1, (2, 1))]})
        self.assert_refused(NoSpeed((4, 1)), least_asked, works, TABLE, 9, plan, prices)

    def test_by_how_much(self):
        # 10 against 8; the prices below the best ones have a bound of 24 - 9 - 9.
        self.assert_refused(NoLeast((2, 1)), least_asked, WORKS, SQUARE, 1, MORE, PRICES)
        low = (((3, 1), (6, 1)),) * 2
        self.assert_refused(NoLeast((2, 1)), least_asked, WORKS, SQUARE, 1, LEAST, low)
        self.assert_refused(NoLeast((4, 1)), least_asked, WORKS, SQUARE, 1, MORE, low)

    def test_by_a_little(self):
        over = Fraction(1, 10 ** 30)
        plan = plan_of({0: [(0, pair(2 - over))], 1: [(0, pair(over)), (1, (2, 1))]})
        self.assert_refused(NoLeast(pair(2 * over ** 2)), least_asked, WORKS, SQUARE, 1, plan, PRICES)

    def test_hands_tell(self):
        # By two hands both works have place in turn 1.
        self.assert_refused(NoLeast((2, 1)), least_asked, WORKS, SQUARE, 2, LEAST, ((ONE, (2, 1)), PRICES[1]))
        self.assert_told(True, least_asked, WORKS, SQUARE, 2, MORE, ((ONE, (2, 1)), PRICES[1]))
        self.assert_refused(NoLeast((3, 1)), least_asked, WORKS, SQUARE, 1, MORE, ((ONE, (2, 1)), PRICES[1]))

    def test_the_plan_goes_ahead_of_the_prices(self):
        self.assert_refused(NoPlan("shape", -1), least_asked, WORKS, SQUARE, 1, None, None)
        self.assert_refused(NoPlan("amount", 0), least_asked, WORKS, SQUARE, 1, WRONG, ())
        self.assert_refused(NoPlan("amount", 0), least_asked, WORKS, TABLE, 1, WRONG, PRICES)

    def test_the_prices_go_ahead_of_the_speeds(self):
        works = ((0, 0, (4, 1)),)
        plan = plan_of({0: [(0, (4, 1))]})
        self.assert_refused(NoPrice(-1), least_asked, works, TABLE, 1, plan, ())
        self.assert_refused(NoPrice(0), least_asked, works, TABLE, 1, plan, (((4, 1), (2, 1)),))
        self.assert_refused(NoSpeed((4, 1)), least_asked, works, TABLE, 1, plan, (((3, 1), (2, 1)),))

    def test_the_prices_go_ahead_of_the_bound(self):
        self.assert_refused(NoPrice(0), least_asked, WORKS, SQUARE, 1, MORE, ((ONE, ONE), PRICES[1]))

    def test_the_speeds_go_ahead_of_the_bound(self):
        fast = plan_of({0: [(0, HALF)], 1: [(0, (3, 2)), (1, (2, 1))]})
        self.assert_refused(NoSpeed((7, 2)), least_asked, WORKS, TABLE, 1, fast, ((NOUGHT, NOUGHT),) * 2)

    def test_let_by_means_that_none_has_less(self):
        source = Random(263)
        for step in range(120):
            works, plan = works_and_plan(source, 5)
            rule = source.choice(RULES)
            prices = tuple([price_from(source, rule) for work in works])
            self.assertIs(right_prices(works, rule, prices), True)
            for hands in (1, 2, 9):
                over = fraction(hands_power(rule, hands, plan)) - fraction(price_bound(works, rule, hands, prices))
                self.assertGreaterEqual(over, 0)
                if over == 0:
                    self.assert_told(True, least_asked, works, rule, hands, plan, prices)
                else:
                    self.assert_refused(NoLeast(pair(over)), least_asked, works, rule, hands, plan, prices)

    def test_plans_that_have_more_than_the_least(self):
        source = Random(264)
        for step in range(60):
            works, plan = works_and_plan(source, 7)
            least = speeds_of(least_plan((works, ())))
            for rule in RULES:
                over = fraction(power_of(rule, speeds_of(plan))) - fraction(power_of(rule, least))
                prices = prices_of_layers(works, rule)
                if over == 0:
                    self.assert_told(True, least_asked, works, rule, 1, plan, prices)
                else:
                    self.assert_refused(NoLeast(pair(over)), least_asked, works, rule, 1, plan, prices)

    def test_tables(self):
        source = Random(265)
        for step in range(60):
            works, plan = works_and_plan(source, 5)
            rule = table_from(source, source.randrange(2, 13))
            prices = tuple([price_from(source, rule) for work in works])
            for hands in (1, 3):
                try:
                    power = fraction(hands_power(rule, hands, plan))
                except NoSpeed as refusal:
                    self.assert_refused(NoSpeed(refusal.speed), least_asked, works, rule, hands, plan, prices)
                else:
                    self.assertGreaterEqual(power, fraction(price_bound(works, rule, hands, prices)))


if __name__ == "__main__":
    unittest.main()

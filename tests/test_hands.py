"""Points 30, 31 and 32: works by several hands."""

import copy
import unittest
from fractions import Fraction
from itertools import combinations
from random import Random

from paceplan.errors import NoSpeed
from paceplan.hands import hands_fit, hands_least, work_speeds
from paceplan.leastchecker import least_asked
from paceplan.leasts import least_told
from paceplan.plans import right_plan
from paceplan.prices import hands_power
from paceplan.rooms import lets_much
from paceplan.rules import plain_slope
from support import (NOUGHT, ONE, Case, fraction, high_table, pair, plan_of, speeds_of_layers, table_from,
                     works_and_plan, works_from)

HALF = (1, 2)
TINY = Fraction(1, 10 ** 30)
HANDS = (1, 2, 3, 4, 9)
SQUARE = ("power", 2)
RULES = (SQUARE, ("power", 3), ("power", 4))
TABLE = ("table", ((NOUGHT, ONE), (ONE, (2, 1)), ((3, 1), (6, 1))))
# Windows alike, within one another, crossing and apart.
ALIKE = ((2, 5, (4, 1)), (2, 5, (8, 1)), (2, 5, ONE))
WITHIN = ((0, 9, (5, 1)), (3, 5, (6, 1)), (4, 4, (3, 1)), (0, 23, (2, 1)))
CROSSING = ((0, 5, (6, 1)), (3, 8, (9, 1)), (5, 11, (2, 1)), (7, 12, (7, 1)))
APART = ((0, 1, (2, 1)), (4, 4, (3, 1)), (9, 20, (5, 1)))


def busy_by_words(works, free):
    return [min(free[turn], len([work for work in works if work[0] <= turn <= work[1]])) for turn in range(24)]


def speeds_by_search(works, hands):
    """The speeds of works, by a search over all sets of works that stay."""
    staying = list(range(len(works)))
    free = [hands] * 24
    speeds = {}
    while staying:
        paces = {}
        for count in range(1, len(staying) + 1):
            for some in combinations(staying, count):
                busy = sum(busy_by_words([works[number] for number in some], free))
                paces[some] = sum([fraction(works[number][2]) for number in some]) / busy
        best = max(paces.values())
        tight = sorted({number for some in paces if paces[some] == best for number in some})
        for number in tight:
            speeds[number] = pair(best)
        busy = busy_by_words([works[number] for number in tight], free)
        free = [free[turn] - busy[turn] for turn in range(24)]
        staying = [number for number in staying if number not in tight]
    return tuple([speeds[number] for number in range(len(works))])


def own_means(works):
    return tuple([pair(fraction(amount) / (last - first + 1)) for first, last, amount in works])


def greatest_speed(works, hands):
    return max([fraction(speed) for speed in work_speeds(works, hands)])


class WorkSpeeds(Case):
    def test_of_no_works(self):
        for hands in HANDS:
            self.assert_told((), work_speeds, (), hands)

    def test_of_one_work(self):
        for hands in HANDS:
            self.assert_told(((3, 4),), work_speeds, ((2, 5, (3, 1)),), hands)
            self.assert_told(((7, 2),), work_speeds, ((23, 23, (7, 2)),), hands)

    def test_of_works_alike(self):
        self.assert_told(((13, 4),) * 3, work_speeds, ALIKE, 1)
        self.assert_told(((5, 4), (2, 1), (5, 4)), work_speeds, ALIKE, 2)
        self.assert_told((ONE, (2, 1), (1, 4)), work_speeds, ALIKE, 3)
        self.assert_told((ONE, (2, 1), (1, 4)), work_speeds, ALIKE, 9)

    def test_of_works_within_one_another(self):
        # By one hand: turns 3 to 5 have nine, then the seven turns left of 0 to 9 have five, then 14 have two.
        self.assert_told(((5, 7), (3, 1), (3, 1), (1, 7)), work_speeds, WITHIN, 1)
        self.assert_told((HALF, (2, 1), (3, 1), (1, 12)), work_speeds, WITHIN, 9)

    def test_of_works_apart(self):
        for hands in HANDS:
            self.assert_told((ONE, (3, 1), (5, 12)), work_speeds, APART, hands)

    def test_of_works_of_one_pace_in_several_turns(self):
        works = ((0, 0, ONE), (5, 6, (2, 1)), (9, 9, ONE))
        for hands in HANDS:
            self.assert_told((ONE, ONE, ONE), work_speeds, works, hands)

    def test_against_the_search(self):
        for works in (ALIKE, WITHIN, CROSSING, APART):
            for hands in HANDS:
                self.assert_told(speeds_by_search(works, hands), work_speeds, works, hands)

    def test_many_against_the_search(self):
        source = Random(301)
        for step in range(60):
            works = works_from(source, source.randrange(1, 7))
            for hands in HANDS:
                self.assert_told(speeds_by_search(works, hands), work_speeds, works, hands)

    def test_crowded_ones_against_the_search(self):
        source = Random(302)
        for step in range(60):
            works = []
            for number in range(source.randrange(2, 7)):
                first = source.randrange(3)
                works.append((first, source.randrange(first, 4), (source.randrange(1, 4), 1)))
            for hands in HANDS[:4]:
                self.assert_told(speeds_by_search(tuple(works), hands), work_speeds, tuple(works), hands)

    def test_one_hand_has_the_densities_of_the_layers(self):
        source = Random(303)
        for step in range(60):
            works = works_from(source, source.randrange(21))
            self.assert_told(speeds_of_layers(works), work_speeds, works, 1)

    def test_as_many_hands_as_works(self):
        source = Random(304)
        for step in range(60):
            works = works_from(source, source.randrange(1, 10))
            for hands in (len(works), 9):
                self.assert_told(own_means(works), work_speeds, works, hands)

    def test_twenty_works_by_nine_hands(self):
        works = tuple([(0, 23, (number + 1, 1)) for number in range(20)])
        self.assert_told(((35, 36),) * 20, work_speeds, works, 9)
        heavy = works[:19] + ((0, 23, (48, 1)),)
        self.assert_told((pair(Fraction(190, 8 * 24)),) * 19 + ((2, 1),), work_speeds, heavy, 9)

    def test_amounts_of_long_ratios(self):
        long = 10 ** 199
        amounts = [pair(Fraction(long + number, long - 7 * number - 3)) for number in range(4)]
        works = tuple([(number, number + 2, amount) for number, amount in enumerate(amounts)])
        for hands in HANDS:
            self.assert_told(speeds_by_search(works, hands), work_speeds, works, hands)


class HandsLeast(Case):
    def assert_least(self, works, rule, hands):
        kept = copy.deepcopy((works, rule))
        told = hands_least(works, rule, hands)
        self.assertEqual((works, rule), kept)
        self.assertEqual(repr(told), repr((told[0], told[1])))
        self.assert_told(True, least_asked, works, rule, hands, told[0], told[1])
        prices = tuple([(speed, plain_slope(rule, speed)) for speed in work_speeds(works, hands)])
        self.assertEqual(told[1], prices)
        return told

    def test_of_no_works(self):
        for rule in RULES + (TABLE,):
            for hands in HANDS:
                self.assert_told((plan_of({}), ()), hands_least, (), rule, hands)

    def test_of_one_work(self):
        plan = plan_of({2: [(0, HALF)], 3: [(0, HALF)]})
        for hands in HANDS:
            self.assert_told((plan, ((HALF, ONE),)), hands_least, ((2, 3, ONE),), SQUARE, hands)
            self.assert_told((plan, ((HALF, ONE),)), hands_least, ((2, 3, ONE),), TABLE, hands)

    def test_kinds_of_windows(self):
        for works in (ALIKE, WITHIN, CROSSING, APART):
            for hands in HANDS:
                for rule in RULES:
                    self.assert_least(works, rule, hands)

    def test_many(self):
        source = Random(311)
        for step in range(10):
            works = works_from(source, source.randrange(1, 15))
            for hands in HANDS:
                top = pair(greatest_speed(works, hands))
                for rule in (source.choice(RULES), high_table(top), high_table(pair(fraction(top) * 2))):
                    self.assert_least(works, rule, hands)

    def test_twenty_works_by_nine_hands(self):
        source = Random(312)
        for step in range(3):
            self.assert_least(works_from(source, 20), SQUARE, 9)

    def test_no_plan_has_less(self):
        source = Random(313)
        for step in range(25):
            works, plan = works_and_plan(source, 8)
            for hands in HANDS:
                for rule in RULES:
                    least = fraction(hands_power(rule, hands, hands_least(works, rule, hands)[0]))
                    self.assertLessEqual(least, fraction(hands_power(rule, hands, plan)))

    def test_one_hand_has_the_power_of_the_least_plan(self):
        source = Random(314)
        for step in range(30):
            works = works_from(source, source.randrange(1, 15))
            for rule in RULES:
                plan, prices = least_told((works, ()), rule)
                told = self.assert_least(works, rule, 1)
                self.assertEqual(told[1], prices)
                self.assertEqual(hands_power(rule, 1, told[0]), hands_power(rule, 1, plan))

    def test_too_great_a_speed(self):
        works = ((0, 0, (4, 1)), (2, 2, (7, 1)), (2, 2, (2, 1)), (9, 9, ONE))
        self.assert_refused(NoSpeed((9, 1)), hands_least, works, TABLE, 1)
        self.assert_refused(NoSpeed((7, 1)), hands_least, works, TABLE, 2)
        self.assert_refused(NoSpeed((7, 1)), hands_least, works, TABLE, 9)

    def test_around_a_tables_greatest_speed(self):
        source = Random(315)
        for works in (ALIKE, WITHIN, CROSSING, APART) + tuple([works_from(source, 9) for step in range(3)]):
            for hands in HANDS:
                top = greatest_speed(works, hands)
                self.assert_least(works, high_table(pair(top)), hands)
                self.assert_least(works, high_table(pair(top + TINY)), hands)
                for low in (top - TINY, top / 2):
                    self.assert_refused(NoSpeed(pair(top)), hands_least, works, high_table(pair(low)), hands)

    def test_any_table(self):
        source = Random(316)
        for step in range(40):
            works = works_from(source, source.randrange(1, 9))
            rule = table_from(source, source.randrange(2, 13))
            hands = source.choice(HANDS)
            top = greatest_speed(works, hands)
            if top > fraction(rule[1][-1][0]):
                self.assert_refused(NoSpeed(pair(top)), hands_least, works, rule, hands)
            else:
                self.assert_least(works, rule, hands)


class HandsFit(Case):
    def told(self, word, works, hands, top):
        """What is told behind the word that has to be told."""
        kept = copy.deepcopy((works, top))
        told = hands_fit(works, hands, top)
        self.assertEqual((works, top), kept)
        self.assertEqual(repr(told), repr((word, told[1])))
        return told[1]

    def assert_fits(self, works, hands, top):
        plan = self.told("fits", works, hands, top)
        self.assert_told(True, right_plan, (works, ()), plan)
        for pieces in plan:
            amounts = [fraction(piece[1]) for piece in pieces]
            self.assertLessEqual(max(amounts, default=0), fraction(top))
            self.assertLessEqual(sum(amounts), hands * fraction(top))

    def assert_much(self, works, hands, top):
        self.assert_told(True, lets_much, works, hands, top, self.told("much", works, hands, top))

    def assert_turned_at(self, works, hands, top):
        """At a speed and above it works fit, below it they don't."""
        for speed in (top, top + TINY, top * 2):
            self.assert_fits(works, hands, pair(speed))
        for speed in (top - TINY, top / 2, top / 1000):
            self.assert_much(works, hands, pair(speed))

    def test_of_no_works(self):
        for hands in HANDS:
            self.assert_told(("fits", plan_of({})), hands_fit, (), hands, ONE)
            self.assert_told(("fits", plan_of({})), hands_fit, (), hands, (1, 10 ** 60))

    def test_of_one_work(self):
        for hands in HANDS:
            self.assert_turned_at(((4, 5, (3, 1)),), hands, Fraction(3, 2))

    def test_a_work_that_one_hand_cannot_do(self):
        works = ((4, 5, (3, 1)), (0, 23, ONE))
        for hands in HANDS[1:]:
            self.assert_much(works, hands, ONE)
            self.assert_fits(works, hands, (3, 2))

    def test_around_the_greatest_speed(self):
        for works in (ALIKE, WITHIN, CROSSING, APART):
            for hands in HANDS:
                self.assert_turned_at(works, hands, max([fraction(one) for one in speeds_by_search(works, hands)]))

    def test_many(self):
        source = Random(321)
        for step in range(25):
            works = works_from(source, source.randrange(1, 15))
            for hands in HANDS:
                self.assert_turned_at(works, hands, greatest_speed(works, hands))

    def test_twenty_works_by_nine_hands(self):
        works = works_from(Random(322), 20)
        self.assert_turned_at(works, 9, greatest_speed(works, 9))


if __name__ == "__main__":
    unittest.main()

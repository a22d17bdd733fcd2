"""Point 27: the least plan of a sheet with its prices, or with the mixtures of a few speeds."""

import copy
import unittest
from fractions import Fraction
from random import Random

from paceplan.dealing import least_plan
from paceplan.errors import NoRoom, NoSpeed
from paceplan.leastchecker import least_asked
from paceplan.leasts import few_told, least_told
from paceplan.mixtures import few_table, mix_asked, mixed_power
from paceplan.plans import power_of, right_plan, speeds_of
from paceplan.rules import plain_slope
from paceplan.stretches import layer_density, layers
from paceplan.works import drawn_in
from support import NOUGHT, ONE, Case, fraction, high_table, pair, plan_of, ratio_from, sheet_from

HALF = (1, 2)
TINY = Fraction(1, 10 ** 30)
SQUARE = ("power", 2)
RULES = (SQUARE, ("power", 3), ("power", 4))
TABLE = ("table", ((NOUGHT, ONE), (ONE, (2, 1)), ((3, 1), (6, 1))))
LATE = (((5, 9, ONE), (0, 4, ONE)), ((0, 1),))


class LeastTold(Case):
    def test_of_no_works(self):
        for rule in RULES + (TABLE,):
            self.assert_told((plan_of({}), ()), least_told, ((), ()), rule)

    def test_without_leans(self):
        sheet = (((0, 3, (2, 1)), (1, 2, (3, 1))), ())
        plan = plan_of({0: [(0, ONE)], 1: [(1, (3, 2))], 2: [(1, (3, 2))], 3: [(0, ONE)]})
        self.assert_told((plan, ((ONE, (2, 1)), ((3, 2), (3, 1)))), least_told, sheet, SQUARE)
        self.assert_told((plan, ((ONE, (3, 1)), ((3, 2), (27, 4)))), least_told, sheet, ("power", 3))
        self.assert_told((plan, ((ONE, (2, 1)), ((3, 2), (2, 1)))), least_told, sheet, TABLE)

    def test_with_leans(self):
        plan = plan_of({4: [(0, (2, 1))], 5: [(0, ONE), (1, ONE)], 8: [(2, HALF)]})
        wide = (((4, 9, (3, 1)), (0, 5, ONE), (8, 8, HALF)), ((0, 1),))
        self.assertEqual(drawn_in(wide)[:2], ((4, 5, (3, 1)), (4, 5, ONE)))
        self.assert_told((plan, (((2, 1), (4, 1)), ((2, 1), (4, 1)), (HALF, ONE))), least_told, wide, SQUARE)
        self.assert_told((plan, (((2, 1), (2, 1)), ((2, 1), (2, 1)), (HALF, ONE))), least_told, wide, TABLE)

    def test_the_plain_slope_at_rows(self):
        sheet = (((0, 0, ONE), (1, 1, (3, 1))), ())
        prices = ((ONE, (2, 1)), ((3, 1), (2, 1)))
        self.assertEqual(least_told(sheet, TABLE)[1], prices)

    def test_no_room(self):
        for rule in RULES + (TABLE,):
            self.assert_refused(NoRoom(0), least_told, LATE, rule)
        self.assert_refused(NoRoom(1), least_told, (((0, 0, (9, 1)),) + LATE[0], ((1, 2),)), TABLE)

    def test_too_great_a_speed(self):
        sheet = (((0, 0, (4, 1)), (3, 4, (14, 1)), (9, 9, (5, 1))), ())
        self.assert_refused(NoSpeed((7, 1)), least_told, sheet, TABLE)
        self.assert_refused(NoSpeed(pair(3 + TINY)), least_told, (((9, 9, pair(3 + TINY)),), ()), TABLE)
        self.assertEqual(least_told((((9, 9, (3, 1)),), ()), TABLE)[1], (((3, 1), (2, 1)),))
        self.assertEqual(least_told(sheet, SQUARE)[1][1], ((7, 1), (14, 1)))

    def test_many(self):
        source = Random(271)
        for step in range(60):
            count = source.randrange(1, 13)
            sheet, order = sheet_from(source, count, source.choice((0, 8)))
            works = drawn_in(sheet)
            top = max(speeds_of(least_plan(sheet)), key=fraction)
            for rule in RULES + (high_table(top), high_table(pair(fraction(top) * 3))):
                kept = copy.deepcopy((sheet, rule))
                plan, prices = least_told(sheet, rule)
                self.assertEqual((sheet, rule), kept)
                self.assertEqual(plan, least_plan(sheet))
                self.assertIs(right_plan(sheet, plan), True)
                self.assert_told(True, least_asked, works, rule, 1, plan, prices)
                for turns, numbers in layers(works):
                    for number in numbers:
                        speed = layer_density(works, (turns, numbers))
                        self.assertEqual(prices[number], (speed, plain_slope(rule, speed)))
            self.assert_refused(NoSpeed(top), least_told, sheet, high_table(pair(fraction(top) - TINY)))

    def test_a_plan_and_prices_are_handed_in_again_however_great(self):
        long = 10 ** 199
        works = tuple([(number, number + 3, (long + number, long - 2 * number - 1)) for number in range(5)])
        works = tuple([(first, last, pair(Fraction(*amount))) for first, last, amount in works])
        plan, prices = least_told((works, ()), ("power", 4))
        self.assertIs(least_asked(works, ("power", 4), 1, plan, prices), True)


class FewTold(Case):
    def test_of_no_works(self):
        still = ((NOUGHT, ONE),)
        self.assert_told((plan_of({}), (still,) * 24), few_told, ((), ()), SQUARE, (ONE, (2, 1)))
        self.assert_told((plan_of({}), (still,) * 24), few_told, ((), ()), TABLE, (ONE,))

    def test_speeds_of_rows_between_rows_and_nought(self):
        sheet = (((0, 0, ONE), (1, 1, (3, 2)), (2, 2, HALF), (4, 4, (3, 1))), ())
        plan = plan_of({0: [(0, ONE)], 1: [(1, (3, 2))], 2: [(2, HALF)], 4: [(3, (3, 1))]})
        mixtures = [((NOUGHT, ONE),)] * 24
        mixtures[0] = ((ONE, ONE),)
        mixtures[1] = ((ONE, (3, 4)), ((3, 1), (1, 4)))
        mixtures[2] = ((NOUGHT, HALF), (ONE, HALF))
        mixtures[4] = (((3, 1), ONE),)
        for rule in RULES + (TABLE,):
            self.assert_told((plan, tuple(mixtures)), few_told, sheet, rule, (ONE, (3, 1)))

    def test_refusals_in_their_order(self):
        late = (LATE[0] + ((9, 9, (9, 1)),), LATE[1])
        self.assert_refused(NoRoom(0), few_told, late, TABLE, (ONE, (4, 1)))
        self.assert_refused(NoRoom(0), few_told, late, SQUARE, (ONE,))
        fast = (((9, 9, (9, 1)),), ())
        self.assert_refused(NoSpeed((4, 1)), few_told, fast, TABLE, (ONE, (4, 1), (5, 1)))
        self.assert_refused(NoSpeed((9, 1)), few_told, fast, TABLE, (ONE, (3, 1)))
        self.assert_refused(NoSpeed((9, 1)), few_told, fast, SQUARE, (ONE, (3, 1)))
        self.assert_refused(NoSpeed((4, 1)), few_told, ((), ()), TABLE, ((4, 1),))

    def test_the_plans_greatest_speed(self):
        sheet = (((0, 0, (4, 1)), (3, 4, (14, 1)), (9, 9, (5, 1))), ())
        self.assert_refused(NoSpeed((7, 1)), few_told, sheet, SQUARE, (ONE, (3, 1)))
        self.assert_refused(NoSpeed((7, 1)), few_told, sheet, SQUARE, (pair(7 - TINY),))
        self.assertEqual(few_told(sheet, SQUARE, ((7, 1),))[1][3], (((7, 1), ONE),))

    def test_many(self):
        source = Random(272)
        for step in range(60):
            count = source.randrange(1, 11)
            sheet, order = sheet_from(source, count, source.choice((0, 8)))
            least = least_plan(sheet)
            top = max(speeds_of(least), key=fraction)
            few = sorted({ratio_from(source, 4, 4) for number in range(source.randrange(10))}, key=fraction)
            few = tuple([speed for speed in few if fraction(speed) < fraction(top)]) + (top,)
            for rule in RULES + (high_table(top),):
                kept = copy.deepcopy((sheet, rule, few))
                plan, mixtures = few_told(sheet, rule, few)
                self.assertEqual((sheet, rule, few), kept)
                self.assertEqual(plan, least)
                self.assertIs(type(mixtures), tuple)
                self.assertEqual(len(mixtures), 24)
                table = few_table(rule, few)
                for speed, mix in zip(speeds_of(plan), mixtures):
                    self.assert_told(True, mix_asked, table, speed, mix)
                self.assertEqual(sum([fraction(mixed_power(table, mix)) for mix in mixtures]),
                                 fraction(power_of(table, speeds_of(plan))))


if __name__ == "__main__":
    unittest.main()

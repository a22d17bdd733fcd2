"""Points 12 and 13: right plans, the speeds of plans, and the power of speeds."""

import unittest
from random import Random

from paceplan.errors import NoPlan, NoSpeed
from paceplan.plans import power_of, right_plan, speeds_of
from paceplan.rules import power_at, top_of
from support import (NO_RATIOS, NOUGHT, ONE, STRAYS, Case, fraction, pair, plan_from, plan_of, ratio_from, sheet_from,
                     table_from)

HALF = (1, 2)
WORKS = ((2, 5, ONE), (3, 9, (2, 1)), (0, 23, (3, 2)))
SHEET = (WORKS, ())
EMPTY = ((),) * 24
RIGHT = plan_of({2: [(0, HALF)], 5: [(1, ONE), (0, HALF), (2, HALF)], 9: [(1, ONE)], 23: [(2, ONE)]})


def changed(turn, pieces):
    """The right plan with other pieces in one turn."""
    return RIGHT[:turn] + (pieces,) + RIGHT[turn + 1:]


class PlanCase(Case):
    def assert_right(self, sheet, plan):
        self.assert_told(True, right_plan, sheet, plan)

    def refuse(self, word, number, sheet, thing):
        self.assert_refused(NoPlan(word, number), right_plan, sheet, thing)


class RightPlans(PlanCase):
    def test_without_works(self):
        self.assert_right(((), ()), EMPTY)

    def test_without_leans(self):
        self.assert_right(SHEET, RIGHT)

    def test_at_the_edges_of_windows(self):
        self.assert_right((((0, 0, ONE), (23, 23, ONE), (0, 23, ONE)), ()),
                          plan_of({0: [(0, ONE), (2, HALF)], 23: [(2, HALF), (1, ONE)]}))

    def test_leans_kept_within_a_turn(self):
        works = ((0, 23, ONE), (0, 23, ONE), (0, 23, ONE))
        self.assert_right((works, ((2, 0), (0, 1))), plan_of({7: [(2, ONE), (0, ONE), (1, ONE)]}))

    def test_leans_kept_over_turns(self):
        works = ((0, 23, ONE), (0, 23, ONE))
        leans = ((1, 0), (1, 0))
        self.assert_right((works, leans), plan_of({3: [(1, ONE)], 4: [(0, ONE)]}))
        self.assert_right((works, leans), plan_of({3: [(1, HALF)], 4: [(1, HALF), (0, HALF)], 9: [(0, HALF)]}))

    def test_twenty_works_in_a_turn(self):
        works = tuple([(5, 5, (number + 1, 7)) for number in range(6)] + [(5, 5, (1, 10 ** 199))] * 14)
        self.assert_right((works, ((19, 0),)), plan_of({5: [(number, works[number][2])
                                                           for number in range(19, -1, -1)]}))

    def test_many(self):
        source = Random(16)
        for step in range(150):
            sheet, order = sheet_from(source, source.randrange(1, 21), source.randrange(20))
            self.assert_right(sheet, plan_from(source, sheet, order))


class Shapes(PlanCase):
    def test_any_thing(self):
        for thing in STRAYS:
            self.refuse("shape", -1, SHEET, thing)
            self.refuse("shape", -1, ((), ()), thing)

    def test_lists_for_tuples(self):
        self.refuse("shape", -1, SHEET, list(RIGHT))
        self.refuse("shape", -1, SHEET, tuple([list(pieces) for pieces in RIGHT]))
        self.refuse("shape", -1, ((), ()), ((),) * 23 + ([],))
        self.refuse("shape", -1, SHEET, changed(2, [(0, HALF)]))
        self.refuse("shape", -1, SHEET, changed(2, ([0, HALF],)))
        self.refuse("shape", -1, SHEET, changed(2, ((0, [1, 2]),)))

    def test_other_numbers_of_turns(self):
        for thing in (RIGHT[:23], RIGHT + ((),), (), ((),), RIGHT[:22] + RIGHT[23:]):
            self.refuse("shape", -1, SHEET, thing)
        self.refuse("shape", -1, ((), ()), EMPTY[:23])
        self.refuse("shape", -1, ((), ()), EMPTY + ((),))

    def test_turns_that_are_no_tuples(self):
        for thing in (None, True, 0, "", "ab", []):
            self.refuse("shape", -1, SHEET, changed(0, thing))
            self.refuse("shape", -1, SHEET, changed(23, thing))

    def test_pieces_that_are_no_pairs(self):
        for thing in (None, True, 0, "ab", (), (0,), (0, HALF, HALF), (0, 1, 2), [0, HALF], ((0, HALF),), HALF, ONE):
            self.refuse("shape", -1, SHEET, changed(2, (thing,)))
            self.refuse("shape", -1, SHEET, changed(2, ((0, HALF), thing)))
        self.refuse("shape", -1, SHEET, changed(2, (0, HALF)))

    def test_numbers_of_no_work(self):
        for number in (-1, -3, 3, 20, 10 ** 199, True, False, None, "0", (0,), [0], (0, 1)):
            self.refuse("shape", -1, SHEET, changed(2, ((number, HALF),)))
            self.refuse("shape", -1, SHEET, changed(23, RIGHT[23] + ((number, HALF),)))
        self.refuse("shape", -1, ((), ()), plan_of({0: [(0, ONE)]}))

    def test_amounts_that_are_none(self):
        for amount in NO_RATIOS + (NOUGHT, (-1, 2), (-1, 10 ** 30)):
            self.refuse("shape", -1, SHEET, changed(2, ((0, amount),)))
            self.refuse("shape", -1, SHEET, changed(2, ((0, HALF), (2, amount))))


class Pieces(PlanCase):
    def test_a_work_twice_in_a_turn(self):
        self.refuse("piece", 2, SHEET, changed(2, ((0, (1, 4)), (0, (1, 4)))))
        self.refuse("piece", 23, SHEET, changed(23, ((2, HALF), (2, HALF))))
        self.refuse("piece", 5, SHEET, changed(5, ((1, HALF), (0, HALF), (2, HALF), (1, HALF))))

    def test_out_of_its_window(self):
        self.refuse("piece", 1, SHEET, plan_of({1: [(0, ONE)]}))
        self.refuse("piece", 6, SHEET, plan_of({6: [(0, ONE)]}))
        self.refuse("piece", 6, SHEET, plan_of({2: [(0, HALF)], 6: [(0, HALF)]}))
        self.refuse("piece", 0, SHEET, plan_of({0: [(1, ONE)]}))
        self.refuse("piece", 23, SHEET, plan_of({23: [(1, ONE)]}))
        self.refuse("piece", 2, SHEET, changed(2, ((0, HALF), (1, HALF))))
        self.refuse("piece", 10, SHEET, changed(10, ((2, HALF), (1, HALF))))

    def test_the_least_turn_goes(self):
        self.refuse("piece", 1, SHEET, plan_of({1: [(0, ONE)], 2: [(0, HALF), (0, HALF)]}))
        self.refuse("piece", 2, SHEET, plan_of({2: [(0, HALF), (0, HALF)], 6: [(0, ONE)]}))
        self.refuse("piece", 6, SHEET, plan_of({6: [(0, ONE)], 9: [(2, ONE), (2, ONE)]}))


class Amounts(PlanCase):
    def test_too_much(self):
        self.refuse("amount", 0, SHEET, changed(2, ((0, (10 ** 30 + 1, 2 * 10 ** 30)),)))
        self.refuse("amount", 2, SHEET, changed(0, ((2, ONE),)))

    def test_too_little(self):
        self.refuse("amount", 0, SHEET, changed(2, ((0, (10 ** 30 - 1, 2 * 10 ** 30)),)))
        self.refuse("amount", 1, SHEET, changed(9, ()))
        self.refuse("amount", 2, SHEET, changed(23, ((2, HALF),)))

    def test_nothing_at_all(self):
        self.refuse("amount", 0, SHEET, EMPTY)
        self.refuse("amount", 1, (WORKS[:2], ()), plan_of({2: [(0, ONE)]}))

    def test_the_least_work_goes(self):
        self.refuse("amount", 1, SHEET, plan_of({2: [(0, ONE), (2, HALF)]}))
        self.refuse("amount", 0, SHEET, plan_of({5: [(2, ONE), (1, ONE), (0, HALF)]}))


class Leans(PlanCase):
    TWO = ((0, 23, ONE), (0, 23, ONE))

    def refuse_lean(self, number, leans, turns):
        self.refuse("lean", number, (self.TWO, leans), plan_of(turns))

    def test_ahead_in_an_earlier_turn(self):
        self.refuse_lean(0, ((0, 1),), {3: [(1, ONE)], 4: [(0, ONE)]})
        self.refuse_lean(0, ((1, 0),), {0: [(0, ONE)], 23: [(1, ONE)]})
        self.refuse_lean(0, ((0, 1),), {3: [(0, HALF)], 4: [(1, ONE)], 5: [(0, HALF)]})
        self.refuse_lean(0, ((0, 1),), {3: [(1, (1, 9))], 5: [(0, ONE)], 6: [(1, (8, 9))]})

    def test_ahead_in_the_same_turn(self):
        self.refuse_lean(0, ((0, 1),), {3: [(1, ONE), (0, ONE)]})
        self.refuse_lean(0, ((1, 0),), {3: [(0, ONE), (1, ONE)]})
        self.refuse_lean(0, ((0, 1),), {2: [(0, HALF)], 3: [(1, ONE), (0, HALF)]})
        self.refuse_lean(0, ((0, 1),), {2: [(0, HALF), (1, HALF)], 3: [(0, HALF), (1, HALF)]})
        self.refuse_lean(0, ((0, 1),), {2: [(0, HALF), (1, ONE)], 3: [(0, HALF)]})

    def test_windows_that_are_not_drawn_in(self):
        works = ((0, 9, ONE), (3, 12, ONE))
        self.refuse("lean", 0, (works, ((0, 1),)), plan_of({3: [(1, ONE)], 5: [(0, ONE)]}))
        self.assert_right((works, ((0, 1),)), plan_of({0: [(0, ONE)], 12: [(1, ONE)]}))
        self.refuse("lean", 0, (works, ((1, 0),)), plan_of({0: [(0, ONE)], 12: [(1, ONE)]}))

    def test_the_least_lean_goes(self):
        works = ((0, 23, ONE),) * 4
        plan = plan_of({1: [(3, ONE), (2, ONE), (1, ONE)], 2: [(0, ONE)]})
        self.refuse("lean", 2, (works, ((3, 2), (2, 1), (0, 3), (1, 2))), plan)
        self.refuse("lean", 0, (works, ((0, 1), (2, 3))), plan)
        self.refuse("lean", 3, (works, ((3, 0), (1, 0), (3, 0), (1, 2))), plan)

    def test_many_reversed(self):
        source = Random(17)
        for step in range(100):
            sheet, order = sheet_from(source, source.randrange(2, 21), 10)
            plan = plan_from(source, (sheet[0], ()), order)
            places = [number for pieces in plan for number, amount in pieces]
            broken = [number for number, (base, leaner) in enumerate(sheet[1])
                      if any(place < 0 for place in self.gaps(places, base, leaner))]
            if broken:
                self.refuse("lean", broken[0], sheet, plan)
            else:
                self.assert_right(sheet, plan)

    def gaps(self, places, base, leaner):
        return [late - early for early, one in enumerate(places) if one == base
                for late, other in enumerate(places) if other == leaner]


class OrderOfRefusals(PlanCase):
    def test_shape_ahead_of_all(self):
        self.refuse("shape", -1, SHEET, plan_of({0: [(0, ONE), (0, ONE)], 23: [(3, ONE)]}))
        self.refuse("shape", -1, SHEET, plan_of({0: [(0, ONE)], 22: [(2, NOUGHT)]}))

    def test_piece_ahead_of_amount_and_lean(self):
        self.refuse("piece", 23, SHEET, plan_of({23: [(0, ONE)]}))
        sheet = (((0, 5, ONE), (0, 5, ONE)), ((0, 1),))
        self.refuse("piece", 6, sheet, plan_of({2: [(1, ONE), (0, HALF)], 6: [(0, HALF)]}))

    def test_amount_ahead_of_lean(self):
        sheet = (((0, 5, ONE), (0, 5, ONE)), ((0, 1),))
        self.refuse("amount", 1, sheet, plan_of({2: [(1, HALF), (0, ONE)]}))
        self.refuse("amount", 1, sheet, plan_of({2: [(0, ONE)]}))


class Speeds(Case):
    def test_of_plans_with_empty_turns(self):
        self.assert_told((NOUGHT,) * 24, speeds_of, EMPTY)
        told = [NOUGHT] * 24
        told[2] = HALF
        told[5] = (2, 1)
        told[9] = ONE
        told[23] = ONE
        self.assert_told(tuple(told), speeds_of, RIGHT)

    def test_of_unlike_bottoms(self):
        self.assert_told((NOUGHT,) * 3 + ((13, 12),) + (NOUGHT,) * 20, speeds_of,
                         plan_of({3: [(0, HALF), (1, (1, 3)), (2, (1, 4))]}))

    def test_many(self):
        source = Random(18)
        for step in range(50):
            sheet, order = sheet_from(source, source.randrange(1, 21), 5)
            plan = plan_from(source, sheet, order)
            told = tuple([pair(sum([fraction(amount) for number, amount in pieces], fraction(NOUGHT)))
                          for pieces in plan])
            self.assert_told(told, speeds_of, plan)


class PowersOfSpeeds(Case):
    TABLE = ("table", ((NOUGHT, (1, 3)), (ONE, (5, 6)), ((2, 1), (7, 3))))

    def test_of_no_speeds(self):
        for rule in (("power", 2), ("power", 4), self.TABLE):
            self.assert_told(NOUGHT, power_of, rule, ())

    def test_of_powers(self):
        speeds = (NOUGHT, HALF, (2, 1), HALF)
        for k, told in ((2, (9, 2)), (3, (33, 4)), (4, (129, 8))):
            self.assert_told(told, power_of, ("power", k), speeds)

    def test_of_tables(self):
        self.assert_told((7, 12), power_of, self.TABLE, (HALF,))
        self.assert_told((15, 4), power_of, self.TABLE, (HALF, ONE, (2, 1)))

    def test_a_turn_that_stands_still_counts(self):
        self.assert_told((8, 1), power_of, self.TABLE, (NOUGHT,) * 24)
        self.assert_told((1, 3), power_of, self.TABLE, (NOUGHT,))
        self.assert_told(NOUGHT, power_of, ("power", 3), (NOUGHT,) * 24)

    def test_the_first_speed_above_the_greatest(self):
        above = (2 * 10 ** 30 + 1, 10 ** 30)
        self.assert_refused(NoSpeed(above), power_of, self.TABLE, (ONE, (2, 1), above, (9, 1)))
        self.assert_refused(NoSpeed((9, 1)), power_of, self.TABLE, ((9, 1), above, (10, 1)))

    def test_of_any_number_of_speeds(self):
        source = Random(19)
        for step in range(60):
            rule = table_from(source, 5) if step % 2 else ("power", source.randrange(2, 5))
            top = fraction(top_of(rule) or (5, 1))
            speeds = tuple([pair(top * fraction(ratio_from(source, 1, 6))) for turn in range(source.randrange(60))])
            told = sum([fraction(power_at(rule, speed)) for speed in speeds], fraction(NOUGHT))
            self.assert_told(pair(told), power_of, rule, speeds)


if __name__ == "__main__":
    unittest.main()

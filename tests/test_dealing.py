"""Points 19 and 20: works dealt by speeds, and the least plan of a sheet."""

import unittest
from fractions import Fraction
from random import Random

from paceplan.dealing import dealt, least_plan
from paceplan.errors import NoRoom
from paceplan.plans import power_of, right_plan, speeds_of
from paceplan.stretches import layer_speeds
from paceplan.works import drawn_in, right_sheet
from support import (NOUGHT, ONE, Case, fraction, high_table, leaned_on, pair, plan_from, plan_of, ratio_from,
                     sheet_from, speeds_told, works_from)

HALF = (1, 2)
EMPTY = ((),) * 24


def order_by_walking(works, leans):
    order = []
    for last in range(24):
        group = [number for number in range(len(works)) if works[number][1] == last]
        while group:
            ready = [number for number in group if not leaned_on(leans, number) & set(group)]
            order.append(min(ready))
            group.remove(min(ready))
    return order


def dealt_by_walking(works, leans, speeds):
    """The plan in Fractions, and the numbers of the works of which something is left."""
    left = [fraction(work[2]) for work in works]
    plan = []
    for turn, speed in enumerate(speeds):
        room = fraction(speed)
        pieces = []
        for number in order_by_walking(works, leans):
            part = min(room, left[number]) if works[number][0] <= turn <= works[number][1] else 0
            if part > 0:
                pieces.append((number, pair(part)))
                left[number] -= part
                room -= part
        plan.append(tuple(pieces))
    return tuple(plan), [number for number, rest in enumerate(left) if rest > 0]


class Dealt(Case):
    def test_of_no_works(self):
        self.assert_told(EMPTY, dealt, (), (), (NOUGHT,) * 24)
        self.assert_told(EMPTY, dealt, (), (), (ONE,) * 24)

    def test_by_last_turns(self):
        self.assert_told(plan_of({0: [(1, HALF)], 1: [(1, HALF)], 2: [(0, HALF)], 3: [(0, HALF)]}),
                         dealt, ((0, 5, ONE), (0, 3, ONE)), (), (HALF,) * 24)

    def test_last_turns_go_ahead_of_first_ones_and_of_numbers(self):
        works = ((0, 9, (3, 1)), (2, 4, ONE), (1, 5, ONE))
        self.assert_told(plan_of({0: [(0, ONE)], 1: [(2, ONE)], 2: [(1, ONE)], 3: [(0, ONE)], 4: [(0, ONE)]}),
                         dealt, works, (), (ONE,) * 24)

    def test_like_last_turns_by_numbers(self):
        works = ((0, 4, HALF), (0, 4, HALF), (0, 4, HALF))
        self.assert_told(plan_of({0: [(0, HALF), (1, HALF)], 1: [(2, HALF)]}), dealt, works, (), (ONE,) * 24)

    def test_like_last_turns_by_leans(self):
        works = ((0, 4, HALF), (0, 4, HALF), (0, 4, HALF))
        self.assert_told(plan_of({0: [(1, HALF), (2, HALF), (0, HALF)]}), dealt, works, ((2, 0),), ((5, 1),) * 24)
        self.assert_told(plan_of({0: [(2, HALF), (1, HALF), (0, HALF)]}), dealt, works, ((2, 1), (1, 0)),
                         ((5, 1),) * 24)
        self.assert_told(plan_of({0: [(1, HALF), (0, HALF), (2, HALF)]}), dealt, works, ((1, 0),), ((5, 1),) * 24)

    def test_the_least_number_of_those_that_may_come(self):
        works = ((0, 4, ONE),) * 5
        told = plan_of({0: [(3, ONE), (0, ONE), (1, ONE), (4, ONE), (2, ONE)]})
        self.assert_told(told, dealt, works, ((3, 0), (3, 1), (4, 2)), ((9, 1),) * 24)

    def test_by_way_of_others(self):
        works = ((0, 4, ONE),) * 4
        told = plan_of({0: [(2, ONE), (3, ONE), (1, ONE), (0, ONE)]})
        self.assert_told(told, dealt, works, ((1, 0), (3, 1)), ((9, 1),) * 24)
        told = plan_of({0: [(1, ONE), (3, ONE), (0, ONE), (2, ONE)]})
        self.assert_told(told, dealt, works, ((1, 0), (1, 2), (3, 2), (3, 0)), ((9, 1),) * 24)

    def test_by_way_of_works_with_other_last_turns(self):
        works = ((0, 4, ONE), (0, 9, ONE), (0, 4, ONE))
        told = plan_of({0: [(2, ONE), (0, ONE), (1, ONE)]})
        self.assert_told(told, dealt, works, ((2, 1), (1, 0)), ((9, 1),) * 24)
        works = ((0, 4, ONE), (0, 2, ONE), (0, 4, ONE))
        told = plan_of({0: [(1, ONE), (2, ONE), (0, ONE)]})
        self.assert_told(told, dealt, works, ((2, 1), (1, 0)), ((9, 1),) * 24)

    def test_leans_of_unlike_last_turns_do_not_count(self):
        works = ((0, 9, ONE), (0, 4, ONE))
        told = plan_of({0: [(1, ONE), (0, ONE)]})
        self.assert_told(told, dealt, works, ((0, 1),), ((9, 1),) * 24)

    def test_a_speed_that_is_used_up_within_a_work(self):
        works = ((0, 3, (4, 3)), (0, 3, (2, 3)))
        self.assert_told(plan_of({0: [(0, HALF)], 1: [(0, HALF)], 2: [(0, (1, 3)), (1, (1, 6))], 3: [(1, HALF)]}),
                         dealt, works, (), (HALF,) * 24)

    def test_a_speed_that_is_used_up_at_the_end_of_a_work(self):
        works = ((0, 3, HALF), (0, 3, HALF))
        self.assert_told(plan_of({0: [(0, HALF)], 1: [(1, HALF)]}), dealt, works, (), (HALF,) * 24)

    def test_more_speed_than_there_is_work(self):
        self.assert_told(plan_of({2: [(0, ONE)]}), dealt, ((2, 23, ONE),), (), ((100, 1),) * 24)

    def test_turns_that_stand_still(self):
        self.assert_told(plan_of({4: [(0, HALF)], 23: [(0, HALF)]}), dealt, ((0, 23, ONE),), (),
                         speeds_told({4: HALF, 23: HALF}))

    def test_windows_at_both_edges(self):
        works = ((23, 23, ONE), (0, 0, ONE))
        self.assert_told(plan_of({0: [(1, ONE)], 23: [(0, ONE)]}), dealt, works, (), (ONE,) * 24)

    def test_no_room(self):
        self.assert_refused(NoRoom(0), dealt, ((2, 3, ONE),), (), (NOUGHT,) * 24)
        self.assert_refused(NoRoom(0), dealt, ((2, 3, ONE),), (), speeds_told({1: ONE, 4: ONE}))
        self.assert_refused(NoRoom(0), dealt, ((2, 3, ONE),), (), speeds_told({2: HALF, 3: (1, 3)}))
        self.assert_refused(NoRoom(0), dealt, ((23, 23, ONE),), (), speeds_told({23: (10 ** 30 - 1, 10 ** 30)}))

    def test_the_least_number_has_no_room(self):
        works = ((0, 9, ONE), (0, 2, (9, 1)), (0, 1, (9, 1)))
        self.assert_refused(NoRoom(1), dealt, works, (), (ONE,) * 24)
        self.assert_refused(NoRoom(0), dealt, works, (), (NOUGHT,) * 24)
        self.assert_refused(NoRoom(2), dealt, ((0, 9, ONE), (0, 2, ONE), (0, 1, (9, 1))), (), ((2, 1),) * 24)

    def test_many_against_walking(self):
        source = Random(36)
        refused = 0
        for step in range(200):
            sheet = sheet_from(source, source.randrange(1, 21), source.randrange(25))[0]
            works, leans = sheet
            if step % 2:
                # Like last turns, so that leans tell the order.
                works = tuple([(first % 6, 5 + first % 2, amount) for first, last, amount in works])
            high = source.choice([1, 3, 20])
            speeds = tuple([ratio_from(source, high, 3) if source.randrange(4) else NOUGHT for turn in range(24)])
            told, short = dealt_by_walking(works, leans, speeds)
            if short:
                refused += 1
                self.assert_refused(NoRoom(short[0]), dealt, works, leans, speeds)
            else:
                self.assert_told(told, dealt, works, leans, speeds)
        self.assertTrue(40 < refused < 180, refused)


class LeastPlans(Case):
    def test_of_no_works(self):
        self.assert_told(EMPTY, least_plan, ((), ()))

    def test_without_leans(self):
        sheet = (((2, 7, (2, 1)), (4, 5, (3, 1))), ())
        self.assert_told(plan_of({2: [(0, HALF)], 3: [(0, HALF)], 4: [(1, (3, 2))], 5: [(1, (3, 2))], 6: [(0, HALF)],
                                  7: [(0, HALF)]}), least_plan, sheet)

    def test_with_leans(self):
        sheet = (((0, 23, ONE), (3, 4, ONE), (4, 9, (2, 1))), ((0, 1), (1, 2)))
        self.assertEqual(drawn_in(sheet), ((0, 4, ONE), (3, 4, ONE), (4, 9, (2, 1))))
        told = {turn: [(0, (1, 3))] for turn in (0, 1, 2)}
        told[3] = [(1, HALF)]
        told[4] = [(1, HALF)]
        told.update({turn: [(2, (2, 5))] for turn in (5, 6, 7, 8, 9)})
        self.assert_told(plan_of(told), least_plan, sheet)

    def test_leans_within_a_turn(self):
        sheet = (((5, 5, ONE), (5, 5, ONE), (5, 5, ONE)), ((1, 0), (2, 1)))
        self.assert_told(plan_of({5: [(2, ONE), (1, ONE), (0, ONE)]}), least_plan, sheet)
        sheet = (((0, 23, ONE), (5, 5, ONE), (0, 23, ONE)), ((1, 0), (2, 1)))
        self.assertEqual(right_plan(sheet, least_plan(sheet)), True)

    def test_no_room(self):
        self.assert_refused(NoRoom(0), least_plan, (((6, 9, ONE), (0, 5, ONE)), ((0, 1),)))
        self.assert_refused(NoRoom(1), least_plan, (((0, 23, ONE), (0, 4, ONE), (0, 23, ONE), (5, 23, ONE)),
                                                    ((3, 2), (2, 1))))

    def assert_least(self, sheet):
        works = drawn_in(sheet)
        plan = least_plan(sheet)
        self.assertIs(right_plan(sheet, plan), True)
        self.assertIs(right_plan((works, sheet[1]), plan), True)
        self.assertEqual(speeds_of(plan), layer_speeds(works))
        self.assertEqual(plan, dealt(works, sheet[1], layer_speeds(works)))
        return plan

    def test_many(self):
        source = Random(37)
        for step in range(120):
            sheet, order = sheet_from(source, source.randrange(1, 21), source.randrange(30))
            speeds = speeds_of(self.assert_least(sheet))
            top = pair(max([fraction(speed) for speed in speeds]))
            for rule in (("power", 2), ("power", 3), ("power", 4), high_table(pair(fraction(top) + 30))):
                other = speeds_of(plan_from(source, sheet, order))
                if rule[0] == "table" and max([fraction(speed) for speed in other]) > fraction(rule[1][-1][0]):
                    continue
                self.assertLessEqual(fraction(power_of(rule, speeds)), fraction(power_of(rule, other)))
                if rule[0] == "power" and other != speeds:
                    self.assertLess(fraction(power_of(rule, speeds)), fraction(power_of(rule, other)))

    def test_leans_cost_nothing_but_narrower_windows(self):
        source = Random(38)
        for step in range(80):
            sheet = sheet_from(source, source.randrange(2, 21), 30)[0]
            self.assertEqual(speeds_of(least_plan(sheet)), speeds_of(least_plan((drawn_in(sheet), ()))))

    def test_long_chains(self):
        source = Random(39)
        for step in range(20):
            works = tuple([(0, 23, ratio_from(source, 3, 5)) for number in range(20)])
            order = list(range(20))
            source.shuffle(order)
            sheet = (works, tuple(zip(order, order[1:])))
            self.assertIs(right_sheet(sheet), True)
            plan = self.assert_least(sheet)
            shown = [number for pieces in plan for number, amount in pieces]
            self.assertEqual(sorted(shown, key=order.index), shown)

    def test_long_amounts(self):
        source = Random(40)
        works = tuple([(number, number + 3, pair(Fraction(source.randrange(1, 10 ** 199), 10 ** 199 + 2 * number + 1)))
                       for number in range(8)])
        sheet = (works, ((0, 3), (3, 5)))
        self.assert_least(sheet)

    def test_windows_alone_are_dealt_in_time(self):
        source = Random(41)
        for step in range(60):
            works = works_from(source, 20)
            self.assert_least((works, ()))


if __name__ == "__main__":
    unittest.main()

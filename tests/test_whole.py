"""Point 4: what is promised over the whole program, and points 2 and 3, which go for all of it."""

import unittest
from fractions import Fraction
from random import Random

from paceplan.bills import bill, lets_bill
from paceplan.dealing import least_plan
from paceplan.desk import Desk
from paceplan.errors import NoSpeed
from paceplan.hands import hands_fit, hands_least, work_speeds
from paceplan.keeper import Keeper, kept_plan
from paceplan.leastchecker import least_asked
from paceplan.leasts import few_told, least_told
from paceplan.mixtures import few_table, mix_asked
from paceplan.plans import power_of, right_plan, speeds_of
from paceplan.prices import hands_power, price_bound
from paceplan.reading import read_plan, read_sheet
from paceplan.rooms import fits, lets_much
from paceplan.stretchchecker import lets_stretches, stretch_bound
from paceplan.stretches import layer_speeds, layers
from paceplan.texts import plan_lines, sheet_lines
from paceplan.works import drawn_in
from support import Case, fraction, high_table, pair, plan_from, ratio_from, sheet_from, works_and_plan, works_from

RULES = (("power", 2), ("power", 3), ("power", 4))
TINY = Fraction(1, 10 ** 30)


def top_speed(works):
    return max([fraction(speed) for speed in layer_speeds(works)])


def is_slow_enough(plan, top):
    return all([fraction(speed) <= top for speed in speeds_of(plan)])


class OneLeastPower(Case):
    def test_all_roads_tell_it(self):
        source = Random(41)
        for step in range(25):
            sheet, order = sheet_from(source, source.randrange(1, 12), source.choice((0, 8)))
            works = drawn_in(sheet)
            for rule in RULES + (high_table(pair(top_speed(works))),):
                plan, prices = least_told(sheet, rule)
                power = power_of(rule, speeds_of(plan))
                self.assertEqual(stretch_bound(works, rule, layers(works)), power)
                self.assertEqual(price_bound(works, rule, 1, prices), power)
                by_hands = hands_least(works, rule, 1)
                self.assertEqual(hands_power(rule, 1, by_hands[0]), power)
                self.assertEqual(by_hands[1], prices)
                self.assertEqual(speeds_of(by_hands[0]), speeds_of(plan))

    def test_each_makers_own_are_let_by(self):
        source = Random(42)
        for step in range(15):
            sheet, order = sheet_from(source, source.randrange(1, 12), source.choice((0, 8)))
            works = drawn_in(sheet)
            rule = source.choice(RULES)
            plan, prices = least_told(sheet, rule)
            self.assertIs(right_plan(sheet, plan), True)
            self.assertIs(lets_stretches(works, layers(works)), True)
            self.assertIs(least_asked(works, rule, 1, plan, prices), True)
            top = max(speeds_of(plan), key=fraction)
            for speed, mix in zip(speeds_of(plan), few_told(sheet, rule, (top,))[1]):
                self.assertIs(mix_asked(few_table(rule, (top,)), speed, mix), True)
            for hands in (2, 9):
                plan, prices = hands_least(works, rule, hands)
                self.assertIs(least_asked(works, rule, hands, plan, prices), True)
            self.assertIs(lets_bill(2, speeds_of(kept_plan(works)), speeds_of(plan), bill(works, 2, plan)), True)

    def test_no_plan_has_less_and_only_these_speeds_have_so_much(self):
        source = Random(43)
        for step in range(60):
            sheet, order = sheet_from(source, source.randrange(1, 6), source.choice((0, 4)))
            least = speeds_of(least_plan(sheet))
            speeds = speeds_of(plan_from(source, sheet, order))
            for rule in RULES:
                if speeds == least:
                    self.assertEqual(power_of(rule, speeds), power_of(rule, least))
                else:
                    self.assertGreater(fraction(power_of(rule, speeds)), fraction(power_of(rule, least)))

    def test_more_hands_never_need_more_power(self):
        source = Random(44)
        for step in range(15):
            works = works_from(source, source.randrange(1, 12))
            table = ("table", ((pair(Fraction(0)),) * 2, (pair(top_speed(works)), (1, 1))))
            for rule in RULES + (table,):
                powers = []
                for hands in (1, 2, 3, 5, 9):
                    powers.append(fraction(hands_power(rule, hands, hands_least(works, rule, hands)[0])))
                self.assertEqual(powers, sorted(powers, reverse=True))

    def test_more_hands_never_need_more_speed(self):
        source = Random(45)
        for step in range(30):
            works = works_from(source, source.randrange(1, 15))
            tops = [max([fraction(speed) for speed in work_speeds(works, hands)]) for hands in (1, 2, 3, 4, 9)]
            self.assertEqual(tops, sorted(tops, reverse=True))

    def test_a_work_more_never_lowers_the_speed_of_a_turn(self):
        source = Random(46)
        for step in range(100):
            works = works_from(source, source.randrange(1, 20))
            fewer = layer_speeds(works[:-1])
            for low, high in zip(fewer, layer_speeds(works)):
                self.assertLessEqual(fraction(low), fraction(high))

    def test_leaning_costs_but_the_windows(self):
        source = Random(47)
        for step in range(40):
            sheet, order = sheet_from(source, source.randrange(2, 10), 12)
            self.assertEqual(speeds_of(least_plan(sheet)), speeds_of(least_plan((drawn_in(sheet), ()))))


class InTimeOrTooMuch(Case):
    def test_just_one_of_both(self):
        source = Random(48)
        for step in range(40):
            works = works_from(source, source.randrange(1, 15))
            top = top_speed(works)
            for speed in (top, top + TINY, top - TINY, fraction(ratio_from(source, 4, 5))):
                word = "fits" if top <= speed else "much"
                for told in (fits(works, pair(speed)), hands_fit(works, 1, pair(speed))):
                    self.assertEqual(told[0], word)
                    if word == "much":
                        self.assertIs(lets_much(works, 1, pair(speed), told[1]), True)
                    else:
                        self.assertIs(right_plan((works, ()), told[1]), True)
                        self.assertTrue(is_slow_enough(told[1], speed))


class UnknownComings(Case):
    def test_the_keepers_power_is_bounded_against_any_plan(self):
        source = Random(49)
        for step in range(15):
            works, plan = works_and_plan(source, 12)
            kept = kept_plan(works)
            self.assertIs(right_plan((works, ()), kept), True)
            for k in (2, 3, 4):
                rule = ("power", k)
                power = fraction(power_of(rule, speeds_of(kept)))
                for other in (plan, least_plan((works, ()))):
                    self.assertLessEqual(power, k ** k * fraction(power_of(rule, speeds_of(other))))
                    self.assertIs(lets_bill(k, speeds_of(kept), speeds_of(other), bill(works, k, other)), True)
                self.assertLessEqual(fraction(power_of(rule, speeds_of(least_plan((works, ()))))), power)


class AskedAgain(Case):
    def test_nothing_hangs_on_what_was_asked_before(self):
        source = Random(50)
        works, plan = works_and_plan(source, 8)
        sheet = (works, ())
        asked = ((least_told, sheet, RULES[0]), (hands_least, works, RULES[1], 2), (kept_plan, works), (layers, works),
                 (bill, works, 2, plan), (fits, works, (1, 1)), (hands_fit, works, 2, (1, 1)), (work_speeds, works, 3),
                 (few_told, sheet, RULES[0], ((99, 1),)), (plan_lines, plan), (sheet_lines, sheet))
        told = [repr(row[0](*row[1:])) for row in asked]
        Desk().say("work 0 0 1")
        Keeper().come(3, (1, 1))
        for row, answer in reversed(list(zip(asked, told))):
            self.assertEqual(repr(row[0](*row[1:])), answer)

    def test_what_is_told_is_the_askers_own(self):
        works, plan = works_and_plan(Random(51), 5)
        for told, again in ((plan_lines, plan), (sheet_lines, (works, ()))):
            first = told(again)
            first.append("nothing")
            first[0] = None
            self.assertNotEqual(told(again), first)

    def test_what_is_told_may_be_written_read_and_asked(self):
        source = Random(52)
        for step in range(20):
            sheet, order = sheet_from(source, source.randrange(1, 9), source.choice((0, 5)))
            plan = least_plan(sheet)
            self.assertEqual(read_sheet(sheet_lines(sheet)), sheet)
            self.assertIs(right_plan(sheet, read_plan(plan_lines(plan))), True)

    def test_a_refusal_changes_nothing(self):
        works = ((0, 0, (4, 1)), (2, 3, (2, 1)))
        table = ("table", (((0, 1), (0, 1)), ((3, 1), (6, 1))))
        kept = repr((works, table))
        for asked in (lambda: hands_least(works, table, 2), lambda: least_told((works, ()), table)):
            for step in range(2):
                with self.assertRaises(NoSpeed) as caught:
                    asked()
                self.assertEqual(caught.exception.speed, (4, 1))
        self.assertEqual(repr((works, table)), kept)


if __name__ == "__main__":
    unittest.main()

"""Point 37: a desk, which is told rows and answers each with a text."""

import unittest
from random import Random

from paceplan.dealing import least_plan
from paceplan.desk import Desk
from paceplan.errors import NoRoom, NoRow, NoRule, NoSheet, NoSpeed, NoTurn, NoWork
from paceplan.hands import hands_least
from paceplan.keeper import Keeper, kept_plan
from paceplan.leasts import few_told
from paceplan.mixtures import few_table, mixed_power
from paceplan.plans import power_of, speeds_of
from paceplan.prices import price_bound
from paceplan.rooms import lets_much
from paceplan.stretches import layers
from paceplan.texts import plan_lines, ratio_text, rule_text, sheet_lines
from paceplan.works import drawn_in
from support import STRAYS, Case, fraction, high_table, pair, ratio_from, sheet_from

SQUARE = ("power", 2)
# What a desk tells without being changed by it.
QUESTIONS = ("least", "speeds", "power", "stretches", "few 1 9999999999", "top 1", "hands 1", "hands 9", "left",
             "ratio")
# Two works in turns 5 to 10, of which the second leans on the first, and one in turn 20.
ROWS = ("work 5 20 3", "work 2 10 1/2", "work 20 20 2", "lean 0 1")
NO_ROOM = ("work 9 9 9", "work 5 9 1", "work 0 4 1", "lean 1 2")


def desk_of(*rows):
    desk = Desk()
    for row in rows:
        desk.say(row)
    return desk


def all_told(desk):
    """All that a desk tells, and the class of what it refuses."""
    told = []
    for row in QUESTIONS:
        try:
            told.append(desk.say(row))
        except (NoRoom, NoSpeed) as refusal:
            told.append(repr(refusal) + repr(vars(refusal)))
    return told


class DeskCase(Case):
    def tell(self, desk, row, answer):
        self.assert_told(answer, desk.say, row)

    def refuse(self, desk, refusal, row):
        """Refused, and the desk answers as ahead of it."""
        ahead = all_told(desk)
        self.assert_refused(refusal, desk.say, row)
        self.assertEqual(all_told(desk), ahead)

    def refuse_by_kind(self, desk, refusal, *rows):
        """As refuse, of refusals whose text is free."""
        ahead = all_told(desk)
        for row in rows:
            with self.subTest(row=row):
                with self.assertRaises(refusal) as caught:
                    desk.say(row)
                self.assertIs(type(caught.exception), refusal)
        self.assertEqual(all_told(desk), ahead)


class EmptyDesk(DeskCase):
    def test_what_it_tells(self):
        desk = Desk()
        self.tell(desk, "least", " / ".join(["turn"] * 24))
        self.tell(desk, "speeds", " ".join(["0"] * 24))
        self.tell(desk, "power", "0")
        self.tell(desk, "stretches", "-")
        self.tell(desk, "few 1", "0")
        self.tell(desk, "top 1/9999999999", "fits")
        self.tell(desk, "hands 1", "0")
        self.tell(desk, "hands 9", "0")
        self.tell(desk, "left", "-")
        self.tell(desk, "ratio", "-")
        self.tell(desk, "go", "-")

    def test_by_a_table_that_stands_still_at_some_power(self):
        desk = desk_of("table 0:1/2 1:2")
        self.tell(desk, "power", "12")
        self.tell(desk, "few 1", "12")
        self.tell(desk, "hands 3", "36")


class Answers(DeskCase):
    def test_of_a_sheet(self):
        desk = Desk()
        for row in ROWS:
            self.tell(desk, row, "ok")
        turns = ["turn"] * 24
        for turn in range(5, 10):
            turns[turn] = "turn 0:7/12"
        turns[10] = "turn 0:1/12 1:1/2"
        turns[20] = "turn 2:2"
        self.tell(desk, "least", " / ".join(turns))
        speeds = ["0"] * 24
        speeds[5:11] = ["7/12"] * 6
        speeds[20] = "2"
        self.tell(desk, "speeds", " ".join(speeds))
        self.tell(desk, "power", "145/24")
        self.tell(desk, "stretches", "20:2 5,6,7,8,9,10:0,1")
        self.tell(desk, "top 2", "fits")
        self.tell(desk, "top 3/2", "much 20")
        self.tell(desk, "hands 1", "145/24")
        self.tell(desk, "hands 2", "133/24")
        self.tell(desk, "hands 9", "133/24")
        # Between 1/2 and 2 the power rises from 1/4 to 4: at 7/12 it is 11/24.
        self.tell(desk, "few 1/2 2", "27/4")
        self.tell(desk, "few 2", "11")

    def test_rules_from_here_on(self):
        desk = desk_of(*ROWS)
        self.tell(desk, "power 3", "ok")
        self.tell(desk, "power", ratio_text(pair(6 * fraction((7, 12)) ** 3 + 8)))
        self.tell(desk, "power 4", "ok")
        self.tell(desk, "power", ratio_text(pair(6 * fraction((7, 12)) ** 4 + 16)))
        self.tell(desk, "table 0:1 1/2:2 2:5", "ok")
        self.tell(desk, "power", ratio_text(pair(17 + 6 * fraction((13, 6)) + 5)))
        self.tell(desk, "hands 2", ratio_text(pair(48 + 6 * fraction((1, 1)) + 6 * fraction((1, 6)) + 4)))
        self.tell(desk, "few 1 2", ratio_text(pair(24 + 6 * fraction((7, 6)) + 4)))
        self.tell(desk, "power 2", "ok")
        self.tell(desk, "power", "145/24")

    def test_many_stretches_and_works(self):
        desk = desk_of("work 0 23 1", "work 3 4 9", "work 4 4 2", "work 0 1 1")
        self.tell(desk, "stretches", "3,4:1,2 0,1:3 2,5,6,7,8,9,10,11,12,13,14,15,16,17,18,19,20,21,22,23:0")

    def test_a_keeper(self):
        desk = Desk()
        self.tell(desk, "come 0 1", "0")
        self.tell(desk, "come 2 3", "1")
        self.tell(desk, "left", "1 3")
        self.tell(desk, "go", "0:1 1:1/3")
        self.tell(desk, "left", "0 8/3")
        self.tell(desk, "come 4 1/2", "2")
        self.tell(desk, "come 1 1", "3")
        self.tell(desk, "go", "3:1 1:5/6")
        self.tell(desk, "left", "0 11/6 1/2 0")
        self.tell(desk, "go", "1:11/6")
        self.tell(desk, "go", "2:1/4")
        self.tell(desk, "go", "2:1/4")
        self.tell(desk, "go", "-")
        self.tell(desk, "left", "0 0 0 0")

    def test_a_ratio(self):
        desk = Desk()
        self.tell(desk, "come 1 2", "0")
        self.tell(desk, "ratio", "1")
        self.tell(desk, "go", "0:1")
        self.tell(desk, "come 1 2", "1")
        self.tell(desk, "ratio", "5/4")
        self.tell(desk, "go", "0:1 1:2")
        self.tell(desk, "ratio", "5/4")

    def test_the_ratio_is_by_squares_whatever_the_rule(self):
        desk = desk_of("power 4", "come 1 2", "go", "come 1 2", "table 0:0 1:1")
        self.tell(desk, "ratio", "5/4")

    def test_the_keeper_and_the_sheet_are_apart(self):
        desk = desk_of("come 5 1")
        self.tell(desk, "stretches", "-")
        self.tell(desk, "power", "0")
        desk = desk_of("work 0 5 1")
        self.tell(desk, "left", "-")
        self.tell(desk, "go", "-")
        self.tell(desk, "ratio", "-")

    def test_two_desks_know_nothing_of_each_other(self):
        one = desk_of(*ROWS)
        other = Desk()
        one.say("come 5 1")
        one.say("power 3")
        self.assertEqual(all_told(other), all_told(Desk()))
        other.say("come 3 2")
        self.tell(one, "left", "1")

    def test_numbers_of_ten_figures(self):
        desk = desk_of("work 3 3 9999999999/9999999998", "table 0:0 9999999999:9999999998/9999999997")
        self.tell(desk, "stretches", "3:0")
        self.tell(desk, "speeds", " ".join(["0"] * 3 + ["9999999999/9999999998"] + ["0"] * 20))
        self.tell(desk, "come 0 1/9999999999", "0")
        self.tell(desk, "go", "0:1/9999999999")
        self.tell(desk, "top 9999999999", "fits")
        self.tell(desk, "top 1/9999999999", "much 3")
        # The power at the work's speed is the last row's, by its speed times the work's.
        power = ratio_text(pair(fraction((9999999998, 9999999997)) / 9999999998))
        self.tell(desk, "few 9999999999", power)
        self.tell(desk, "power", power)

    def test_eleven_speeds(self):
        desk = desk_of("work 0 0 11/2")
        few = " ".join([str(speed) for speed in range(1, 12)])
        self.tell(desk, "few " + few, "61/2")

    def test_many_sheets(self):
        source = Random(371)
        for step in range(25):
            sheet, order = sheet_from(source, source.randrange(1, 10), source.choice((0, 6)))
            works = drawn_in(sheet)
            plan = least_plan(sheet)
            speeds = speeds_of(plan)
            top = max(speeds, key=fraction)
            rule = source.choice((SQUARE, ("power", 3), ("power", 4), high_table(top)))
            desk = desk_of(*sheet_lines(sheet), rule_text(rule))
            self.tell(desk, "least", " / ".join(plan_lines(plan)))
            self.tell(desk, "speeds", " ".join([ratio_text(speed) for speed in speeds]))
            self.tell(desk, "power", ratio_text(power_of(rule, speeds)))
            told = [[",".join([str(one) for one in part]) for part in layer] for layer in layers(works)]
            self.tell(desk, "stretches", " ".join([":".join(layer) for layer in told]))
            few = (pair(fraction(top) / 3), top)
            mixtures = few_told(sheet, rule, few)[1]
            power = sum([fraction(mixed_power(few_table(rule, few), mix)) for mix in mixtures])
            self.tell(desk, "few " + " ".join([ratio_text(speed) for speed in few]), ratio_text(pair(power)))
            self.tell(desk, "top " + ratio_text(top), "fits")
            half = pair(fraction(top) / 2)
            words = desk.say("top " + ratio_text(half)).split(" ")
            self.assertEqual(words[0], "much")
            self.assertIs(lets_much(works, 1, half, tuple([int(word) for word in words[1:]])), True)
            for hands in (1, 3, 9):
                prices = hands_least(works, rule, hands)[1]
                self.tell(desk, "hands " + str(hands), ratio_text(price_bound(works, rule, hands, prices)))

    def test_many_comings(self):
        source = Random(372)
        for step in range(5):
            desk = Desk()
            keeper = Keeper()
            for turn in range(24):
                if source.randrange(2) == 0 and len(keeper.works()) < 20:
                    last = source.randrange(turn, 24)
                    amount = ratio_from(source, 4, 3)
                    self.tell(desk, f"come {last} {ratio_text(amount)}", str(keeper.come(last, amount)))
                pieces = [f"{number}:{ratio_text(amount)}" for number, amount in keeper.go()]
                self.tell(desk, "go", " ".join(pieces) or "-")
                self.tell(desk, "left", " ".join([ratio_text(rest) for rest in keeper.left()]) or "-")
            works = keeper.works()
            kept = fraction(power_of(SQUARE, speeds_of(kept_plan(works))))
            least = fraction(power_of(SQUARE, speeds_of(least_plan((works, ())))))
            self.tell(desk, "ratio", ratio_text(pair(kept / least)))


class Refused(DeskCase):
    def test_works_and_leans(self):
        desk = desk_of(*ROWS)
        for row in ("work 5 4 1", "work 24 24 1", "work 0 24 1", "work 0 9999999999 1", "work 0 1 0"):
            self.refuse(desk, NoSheet("work", 3), row)
        for row in ("lean 0 0", "lean 0 3", "lean 3 0", "lean 9999999999 0"):
            self.refuse(desk, NoSheet("lean", 1), row)
        self.refuse(desk, NoSheet("ring", 1), "lean 1 0")
        self.refuse(Desk(), NoSheet("work", 0), "work 5 4 1")
        self.refuse(Desk(), NoSheet("lean", 0), "lean 0 1")

    def test_a_work_and_a_lean_too_many(self):
        desk = desk_of(*["work 0 23 1"] * 20)
        self.refuse(desk, NoSheet("shape", -1), "work 0 23 1")
        self.refuse(desk, NoSheet("shape", -1), "work 23 0 1")
        for step in range(40):
            self.tell(desk, "lean 0 1", "ok")
        self.refuse(desk, NoSheet("shape", -1), "lean 0 1")
        self.refuse(desk, NoSheet("shape", -1), "lean 1 0")

    def test_rules(self):
        desk = desk_of(*ROWS)
        for row in ("power 0", "power 1", "power 5", "power 9999999999", "table", "table 0:0",
                    "table" + " 0:0" * 13):
            self.refuse(desk, NoRule(-1), row)
        self.refuse(desk, NoRule(0), "table 1:0 2:1")
        self.refuse(desk, NoRule(1), "table 0:0 0:1")
        self.refuse(desk, NoRule(1), "table 0:1 1:1")
        self.refuse(desk, NoRule(2), "table 0:0 1:2 2:3")

    def test_no_room(self):
        desk = desk_of(*NO_ROOM)
        for row in ("least", "speeds", "power", "stretches", "few 1", "top 1", "hands 1", "hands 9"):
            self.refuse(desk, NoRoom(1), row)
        # The windows go ahead of the speeds.
        desk.say("table 0:0 1:1")
        for row in ("power", "few 1", "few 1 2", "hands 1"):
            self.refuse(desk, NoRoom(1), row)

    def test_too_great_speeds(self):
        desk = desk_of("work 0 0 4", "work 3 3 7", "work 3 3 1", "work 9 9 5", "table 0:0 1:1 3:4")
        self.refuse(desk, NoSpeed((8, 1)), "power")
        self.refuse(desk, NoSpeed((8, 1)), "few 1 3")
        self.refuse(desk, NoSpeed((4, 1)), "few 1 4 5")
        self.refuse(desk, NoSpeed((8, 1)), "hands 1")
        self.refuse(desk, NoSpeed((7, 1)), "hands 2")
        self.refuse(desk, NoSpeed((7, 1)), "hands 9")
        # The plan itself asks for no rule.
        self.assertEqual(desk.say("speeds").split(" ")[3], "8")
        self.assertEqual(desk.say("least").split(" / ")[0], "turn 0:4")
        self.tell(desk, "power 2", "ok")
        self.refuse(desk, NoSpeed((8, 1)), "few 1 3")
        self.tell(desk, "power", "105")

    def test_the_keeper(self):
        desk = desk_of("go", "come 5 1", "go")
        self.refuse_by_kind(desk, NoWork, "come 1 1", "come 24 1", "come 0 1", "come 9999999999 1", "come 5 0")
        for turn in range(22):
            desk.say("go")
        self.refuse_by_kind(desk, NoTurn, "go")
        self.refuse_by_kind(desk, NoWork, "come 23 1")
        full = desk_of(*["come 23 1"] * 20)
        self.refuse_by_kind(full, NoWork, "come 23 1")

    def test_behind_a_refusal_the_keeper_goes_on_as_ahead_of_it(self):
        one = desk_of("come 5 1", "go", "come 7 2")
        other = desk_of("come 5 1", "go", "come 7 2")
        for row in ("come 0 1", "come 9 0", "nothing", "go on", "work 9 1 1", "power 9"):
            with self.assertRaises(ValueError):
                one.say(row)
        for turn in range(8):
            self.tell(one, "go", other.say("go"))


class NoRows(DeskCase):
    def assert_none(self, *rows):
        for told in (ROWS, NO_ROOM):
            self.refuse_by_kind(desk_of("come 5 1", *told), NoRow, *rows)

    def test_words(self):
        self.assert_none("", " ", "-", "ok", "nothing", "turn", "plan", "works", "sheet", "now", "fits", "much", "lest",
                         "leasts", "least_told", "0", "1")

    def test_blanks(self):
        rows = []
        for row in ROWS + ("power 2", "table 0:0 1:1", "few 1 2", "top 1", "hands 2", "come 5 1") + QUESTIONS + ("go",):
            rows += [" " + row, row + " ", row + "  ", row.replace(" ", "  ") + " ", row + "\t", row + "\n"]
            if " " in row:
                rows += [row.replace(" ", "  "), row.replace(" ", "\t"), row.replace(" ", ""),
                         row.replace(" ", "  ", 1)]
        self.assert_none(*rows)

    def test_capitals(self):
        rows = ("least", "speeds", "power", "stretches", "go", "left", "ratio", "work 0 5 1", "lean 0 2", "power 2",
                "table 0:0 1:1", "few 1", "top 1", "hands 1", "come 5 1")
        self.assert_none(*[row.upper() for row in rows], *[row.capitalize() for row in rows])

    def test_a_word_more_or_fewer(self):
        self.assert_none("work", "work 0", "work 0 5", "work 0 5 1 1", "lean", "lean 0", "lean 0 1 2", "power 2 3",
                         "least 1", "speeds 1", "stretches 1", "go 1", "left 1", "ratio 1", "few", "top", "top 1 2",
                         "hands", "hands 1 2", "come", "come 5", "come 5 1 1", "least least", "go go")

    def test_numbers(self):
        for number in ("00", "05", "-1", "+1", "-0", "1.5", "a", "1a", "", "10000000000", "01234567890", "1/2", "1:2",
                       "5/1", "1_0"):
            self.assert_none(f"work {number} 9 1", f"work 0 {number} 1", f"lean {number} 1", f"lean 0 {number}",
                             f"power {number}", f"hands {number}", f"come {number} 1")

    def test_ratios(self):
        for one in ("00", "05", "-1", "-1/2", "1/-2", "+1", "-0", "2/4", "3/1", "1/0", "0/1", "0/2", "1/", "/2", "/",
                    "1/2/3", "1.5", "a", "", "10000000000", "1/10000000000", "10000000000/3", "1/02", "01/2", "1:2",
                    "1//2", "(1, 2)"):
            self.assert_none(f"work 0 9 {one}", f"come 9 {one}", f"top {one}", f"few {one}", f"few {one} 20000",
                             f"table {one}:0 1:1", f"table 0:{one} 1:1", f"table 0:0 {one}:1", f"table 0:0 1:{one}")

    def test_hands(self):
        self.assert_none("hands 0", "hands 10", "hands 11", "hands 9999999999", "hands -1", "hands 1/2", "hands 09")

    def test_speeds(self):
        twelve = " ".join([str(speed) for speed in range(1, 13)])
        self.assert_none("top 0", "few 0", "few 0 1", "few 1 1", "few 2 1", "few 1 3 2", "few 1/2 1/3", "few 1 2 2",
                         "few 1 1/2 2", "few " + twelve)

    def test_tables(self):
        self.assert_none("table 0", "table 0:0:0", "table 0:0 1", "table :", "table 0: 1:1", "table :0 1:1",
                         "table 0:0,1:1", "table -", "table power 2")

    def test_ahead_of_all_else(self):
        full = desk_of(*["work 0 23 1"] * 20)
        self.refuse_by_kind(full, NoRow, "work 0 23 2/4", "work 23 0 01", "lean 0 00", "power 05", "table 0:0 0:2/4")
        self.refuse_by_kind(desk_of(*["go"] * 24), NoRow, "go 1", "come 5 2/4", "come 24")

    def test_other_things(self):
        self.refuse_by_kind(Desk(), NoRow, *[thing for thing in STRAYS if thing not in ("power", "table")])


if __name__ == "__main__":
    unittest.main()

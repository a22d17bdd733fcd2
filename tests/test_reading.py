"""Point 15: ratios, sheets, rules and plans read from texts."""

import unittest
from fractions import Fraction
from random import Random

from paceplan.errors import NoText
from paceplan.reading import read_plan, read_ratio, read_rule, read_sheet
from paceplan.texts import plan_lines, ratio_text, rule_text, sheet_lines
from support import NOUGHT, ONE, Case, pair, plan_from, sheet_from, table_from

FORTY = "9" * 40
FORTY_ONE = "1" + "0" * 40
# None of these writes a number from 0 on.
NO_NUMBERS = ("", "-0", "-1", "+1", "007", "00", "01", "1.0", "1e3", "0x1", "1_0", "a", "x1", "1x", "--1", "1-", "-",
              "+0", "'1'", "1,0", FORTY_ONE, "0" * 40, "9" * 200, "True", "None", "()", "1:1", "one")
# None of these writes a ratio from nought on.
NO_RATIOS = NO_NUMBERS + ("2/4", "3/1", "1/0", "0/1", "0/5", "0/0", "1/", "/2", "/", "1//2", "1/2/3", "1/-2", "-1/2",
                          "-1/-2", "1/02", "01/2", "1/+2", "1/2 ", "4/2", "10/5", "1/" + FORTY_ONE, FORTY_ONE + "/3",
                          "1:2", "1/a", "a/2")


def worked(length):
    """A number of so many figures."""
    return 7 * (10 ** length - 1) // 9


class Ratios(Case):
    def test_as_written(self):
        for one in (NOUGHT, ONE, (10, 1), (1, 2), (10, 3), (12345678901234567890, 11), (3, 100)):
            self.assert_told(one, read_ratio, ratio_text(one))

    def test_texts(self):
        for text, told in (("0", NOUGHT), ("7", (7, 1)), ("1/2", (1, 2)), ("100/3", (100, 3)), ("3/10", (3, 10))):
            self.assert_told(told, read_ratio, text)

    def test_below_nought(self):
        self.assert_told((-1, 1), read_ratio, "-1")
        self.assert_told((-10, 3), read_ratio, "-10/3")
        for text in ("-0", "--1", "-", "-2/4", "-3/1", "-1/0", "-0/5", "-01", "- 1", "1/-2", "-1/-2", "-+1", "-/2"):
            self.assert_refused(NoText(0), read_ratio, text)

    def test_texts_that_are_none(self):
        for text in NO_RATIOS:
            if text not in ("-1", "-1/2"):
                self.assert_refused(NoText(0), read_ratio, text)

    def test_blanks(self):
        for text in (" ", " 1", "1 ", "1 /2", "1/ 2", "1 2", " 1/2", "1/2 ", "- 1"):
            self.assert_refused(NoText(0), read_ratio, text)

    def test_forty_figures(self):
        self.assert_told((int(FORTY), 1), read_ratio, FORTY)
        self.assert_told((10 ** 39, int(FORTY)), read_ratio, "1" + "0" * 39 + "/" + FORTY)
        self.assert_told((-int(FORTY), 1), read_ratio, "-" + FORTY)
        self.assert_told((-1, int(FORTY)), read_ratio, "-1/" + FORTY)
        for text in (FORTY_ONE, "9" * 41, "-" + FORTY_ONE, "1/" + FORTY_ONE, FORTY_ONE + "/3", "0" + FORTY):
            self.assert_refused(NoText(0), read_ratio, text)

    def test_many(self):
        source = Random(25)
        for step in range(300):
            one = pair(Fraction(source.randrange(-10 ** source.randrange(1, 40), 10 ** 40),
                                source.randrange(1, 10 ** source.randrange(1, 41))))
            self.assert_told(one, read_ratio, ratio_text(one))

    def test_each_short_text(self):
        for text in [one + two + three for one in "-012/ " for two in "-0124/ " for three in ["", "1", "2", "/", "4"]]:
            top, mark, bottom = text.partition("/")
            try:
                right = pair(Fraction(int(top), int(bottom) if mark else 1))
            except (ValueError, ZeroDivisionError):
                right = None
            if right is not None and ratio_text(right) == text:
                self.assert_told(right, read_ratio, text)
            else:
                self.assert_refused(NoText(0), read_ratio, text)


class Sheets(Case):
    def refuse(self, at, lines):
        self.assert_refused(NoText(at), read_sheet, lines)

    def test_no_lines(self):
        self.assert_told(((), ()), read_sheet, [])

    def test_works_and_leans(self):
        self.assert_told((((0, 23, (3, 1)),), ()), read_sheet, ["work 0 23 3"])
        self.assert_told((((0, 23, (3, 1)), (5, 5, (1, 2))), ((1, 0), (1, 0))), read_sheet,
                         ["work 0 23 3", "work 5 5 1/2", "lean 1 0", "lean 1 0"])

    def test_sheets_that_are_not_right(self):
        self.assert_told((((9, 3, NOUGHT), (100, 0, (5, 1))), ()), read_sheet, ["work 9 3 0", "work 100 0 5"])
        self.assert_told(((), ((7, 7), (0, 99))), read_sheet, ["lean 7 7", "lean 0 99"])
        self.assert_told((((int(FORTY), int(FORTY), ONE),), ((int(FORTY), 0),)), read_sheet,
                         [f"work {FORTY} {FORTY} 1", f"lean {FORTY} 0"])
        self.assert_told((((0, 1, ONE),) * 70, ((0, 1),) * 70), read_sheet, ["work 0 1 1"] * 70 + ["lean 0 1"] * 70)

    def test_numbers_that_are_none(self):
        for number in NO_NUMBERS:
            for line in (f"work {number} 5 1", f"work 5 {number} 1", f"lean {number} 1", f"lean 1 {number}"):
                self.refuse(0, [line])
                self.refuse(2, ["work 0 1 1", "work 0 1 1", line, line])

    def test_amounts_that_are_none(self):
        for amount in NO_RATIOS:
            self.refuse(0, [f"work 0 5 {amount}"])

    def test_firsts_and_lasts_are_whole(self):
        for line in ("work 1/2 5 1", "work 0 5/2 1", "lean 1/2 0", "lean 0 1/2"):
            self.refuse(0, [line])

    def test_lines_that_are_none(self):
        for line in ("", " ", "work", "lean", "work 0 5", "work 0 5 1 1", "lean 0", "lean 0 1 2", "lean 0 1 1/2",
                     "Work 0 5 1", "WORK 0 5 1", "Lean 0 1", "works 0 5 1", "0 5 1", "work0 5 1", "work,0,5,1",
                     "turn", "turn 0:1", "power 2", "table", "lean 0:1", "work 0 5:1", "#", "work: 0 5 1"):
            self.refuse(0, [line])
            self.refuse(1, ["work 0 5 1", line])

    def test_blanks(self):
        for line in (" work 0 5 1", "work 0 5 1 ", "work  0 5 1", "work 0  5 1", "work 0 5  1", "lean 0 1 ",
                     " lean 0 1", "lean  0 1", "lean 0  1"):
            self.refuse(0, [line])

    def test_a_work_behind_a_lean(self):
        self.refuse(1, ["lean 0 1", "work 0 5 1"])
        self.refuse(3, ["work 0 5 1", "lean 0 1", "lean 0 1", "work 0 5 1", "junk"])

    def test_the_first_line_goes(self):
        self.refuse(1, ["work 0 5 1", "junk", "lean 0 1", "work 0 5 1"])
        self.refuse(1, ["lean 0 1", "junk", "work 0 5 1"])
        self.refuse(0, ["", ""])

    def test_many(self):
        source = Random(26)
        for step in range(60):
            sheet = sheet_from(source, source.randrange(1, 21), 12)[0]
            self.assert_told(sheet, read_sheet, sheet_lines(sheet))


class Rules(Case):
    def refuse(self, at, lines):
        self.assert_refused(NoText(at), read_rule, lines)

    def test_powers(self):
        for k in (2, 3, 4, 0, 1, 99, int(FORTY)):
            self.assert_told(("power", k), read_rule, [f"power {k}"])

    def test_tables(self):
        self.assert_told(("table", ()), read_rule, ["table"])
        self.assert_told(("table", ((NOUGHT, (1, 3)), (ONE, (5, 6)))), read_rule, ["table 0:1/3 1:5/6"])
        self.assert_told(("table", (((5, 2), NOUGHT),) * 30), read_rule, ["table" + " 5/2:0" * 30])

    def test_no_lines(self):
        self.refuse(0, [])

    def test_more_lines_than_one(self):
        self.refuse(1, ["power 2", "power 2"])
        self.refuse(1, ["table", "junk"])
        self.refuse(1, ["table 0:1", ""])
        self.refuse(1, ["power 2", "power 2", "power 2"])

    def test_a_first_line_that_is_none_goes_first(self):
        self.refuse(0, ["junk", "power 2"])
        self.refuse(0, ["", "junk"])

    def test_lines_that_are_none(self):
        for line in ("", " ", "power", "power 2 2", "power 2/3", "Power 2", "POWER 2", "2", "power2", "powers 2",
                     "Table", "TABLE 0:1", "tables", "table 0", "table 0:1:2", "table 0:", "table :1", "table :",
                     "table 0 1", "table 0:1,1:2", "turn", "work 0 5 1", "table 2", "power 0:1", "power :"):
            self.refuse(0, [line])

    def test_blanks(self):
        for line in (" power 2", "power 2 ", "power  2", " table", "table ", "table  0:1", "table 0:1 ", "table 0 :1",
                     "table 0: 1", "table 0:1  1:2"):
            self.refuse(0, [line])

    def test_numbers_that_are_none(self):
        for number in NO_NUMBERS:
            self.refuse(0, [f"power {number}"])
        for number in NO_RATIOS:
            self.refuse(0, [f"table {number}:1"])
            self.refuse(0, [f"table 1:{number}"])
            self.refuse(0, [f"table 0:1 1:2 2:{number}"])

    def test_many(self):
        source = Random(27)
        for step in range(60):
            table = table_from(source, source.randrange(2, 13))
            self.assert_told(table, read_rule, [rule_text(table)])


class Plans(Case):
    def refuse(self, at, lines):
        self.assert_refused(NoText(at), read_plan, lines)

    def test_any_number_of_turns(self):
        self.assert_told((), read_plan, [])
        self.assert_told(((),), read_plan, ["turn"])
        self.assert_told(((),) * 24, read_plan, ["turn"] * 24)
        self.assert_told((((3, (2, 1)),),) * 40, read_plan, ["turn 3:2"] * 40)

    def test_pieces_in_their_order(self):
        self.assert_told((((2, (1, 2)), (0, (3, 1)), (1, (10, 3))), (), ((19, ONE),)), read_plan,
                         ["turn 2:1/2 0:3 1:10/3", "turn", "turn 19:1"])

    def test_plans_that_are_not_right(self):
        self.assert_told((((100, NOUGHT), (100, NOUGHT)),), read_plan, ["turn 100:0 100:0"])
        self.assert_told((((int(FORTY), (int(FORTY), 1)),),), read_plan, [f"turn {FORTY}:{FORTY}"])

    def test_lines_that_are_none(self):
        for line in ("", " ", "Turn", "TURN", "turns", "turn 0", "turn 0:", "turn :1", "turn :", "turn 0:1:2", "0:1",
                     "turn0:1", "turn 0:1,1:1", "turn 0:1 1", "turn 1 0:1", "turn 0 1", "work 0 5 1", "power 2"):
            self.refuse(0, [line])
            self.refuse(2, ["turn", "turn 0:1", line, line])

    def test_blanks(self):
        for line in (" turn", "turn ", "turn  0:1", "turn 0:1 ", "turn 0:1  1:1", "turn 0 :1", "turn 0: 1",
                     " turn 0:1"):
            self.refuse(0, [line])

    def test_numbers_that_are_none(self):
        for number in NO_NUMBERS + ("1/2",):
            self.refuse(0, [f"turn {number}:1"])
        for amount in NO_RATIOS:
            self.refuse(0, [f"turn 0:{amount}"])
            self.refuse(0, [f"turn 0:1 1:{amount} 2:1"])

    def test_many(self):
        source = Random(28)
        for step in range(60):
            sheet, order = sheet_from(source, source.randrange(1, 21), 5)
            plan = plan_from(source, sheet, order)
            self.assert_told(plan, read_plan, plan_lines(plan))

    def test_numbers_of_every_length(self):
        for length in range(1, 41):
            plan = (((worked(length), (worked(length), 10 ** (length - 1))),),)
            self.assert_told(plan, read_plan, plan_lines(plan))
        for length in (41, 42, 60):
            self.refuse(0, plan_lines((((worked(length), ONE),),)))
            self.refuse(0, plan_lines((((0, (worked(length), 10)),),)))
            self.refuse(0, plan_lines((((0, (1, worked(length))),),)))


if __name__ == "__main__":
    unittest.main()

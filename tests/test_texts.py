"""Point 14: ratios, sheets, rules and plans as texts."""

import unittest
from random import Random

from paceplan.texts import plan_lines, ratio_text, rule_text, sheet_lines
from support import NOUGHT, ONE, Case, plan_from, ratio_from, sheet_from, table_from


def figures(one):
    """A ratio as Python writes it."""
    return str(one[0]) if one[1] == 1 else f"{one[0]}/{one[1]}"


class Ratios(Case):
    def test_bottoms_of_one(self):
        for top in (0, 1, 7, 10, 100, 12345678901234567890, 10 ** 64, 10 ** 64 - 1, 10 ** 128, 7 * 10 ** 64 + 5,
                    10 ** 199):
            self.assert_told(str(top), ratio_text, (top, 1))

    def test_bottoms_above_one(self):
        self.assert_told("1/2", ratio_text, (1, 2))
        self.assert_told("10/3", ratio_text, (10, 3))
        self.assert_told("1/" + "1" + "0" * 199, ratio_text, (1, 10 ** 199))

    def test_below_nought(self):
        self.assert_told("-1", ratio_text, (-1, 1))
        self.assert_told("-10/3", ratio_text, (-10, 3))
        self.assert_told("-" + "9" * 200, ratio_text, (1 - 10 ** 200, 1))

    def test_more_figures_than_python_writes_at_once(self):
        self.assertEqual(ratio_text((10 ** 20000, 1)), "1" + "0" * 20000)
        self.assertEqual(ratio_text((12 * (10 ** 6000 - 1) // 99, 5)), "12" * 3000 + "/5")
        self.assertEqual(ratio_text((-2, 10 ** 5000 - 1)), "-2/" + "9" * 5000)
        self.assertEqual(ratio_text((-(10 ** 5000), 1)), "-1" + "0" * 5000)
        self.assertEqual(plan_lines((((0, (10 ** 5000, 1)),),)), ["turn 0:1" + "0" * 5000])

    def test_many(self):
        source = Random(20)
        for step in range(200):
            length = source.randrange(1, 200)
            top = source.randrange(10 ** length)
            self.assert_told(str(top), ratio_text, (top, 1))


class Sheets(Case):
    def test_without_works(self):
        self.assert_told([], sheet_lines, ((), ()))

    def test_works_alone(self):
        self.assert_told(["work 0 23 3", "work 5 5 1/2"], sheet_lines, (((0, 23, (3, 1)), (5, 5, (1, 2))), ()))

    def test_works_then_leans(self):
        sheet = (((0, 23, (3, 1)), (5, 5, (1, 2))), ((1, 0), (0, 1), (1, 0)))
        self.assert_told(["work 0 23 3", "work 5 5 1/2", "lean 1 0", "lean 0 1", "lean 1 0"], sheet_lines, sheet)

    def test_sheets_that_are_not_right(self):
        self.assert_told(["work 9 3 0", "work 100 0 5"], sheet_lines, (((9, 3, NOUGHT), (100, 0, (5, 1))), ()))
        self.assert_told(["lean 7 7", "lean 0 99"], sheet_lines, ((), ((7, 7), (0, 99))))
        works = tuple([(number, number, (number, 1)) for number in range(50)])
        leans = tuple([(number, number) for number in range(60)])
        self.assert_told([f"work {number} {number} {number}" for number in range(50)]
                         + [f"lean {number} {number}" for number in range(60)], sheet_lines, (works, leans))

    def test_many(self):
        source = Random(21)
        for step in range(50):
            sheet = sheet_from(source, source.randrange(1, 21), 10)[0]
            told = [f"work {first} {last} {figures(amount)}" for first, last, amount in sheet[0]]
            self.assert_told(told + [f"lean {base} {leaner}" for base, leaner in sheet[1]], sheet_lines, sheet)


class Rules(Case):
    def test_powers(self):
        for k in (2, 3, 4, 0, 1, 99):
            self.assert_told(f"power {k}", rule_text, ("power", k))

    def test_tables(self):
        self.assert_told("table 0:1/3 1:5/6 3/2:7", rule_text,
                         ("table", ((NOUGHT, (1, 3)), (ONE, (5, 6)), ((3, 2), (7, 1)))))

    def test_a_table_with_no_rows(self):
        self.assert_told("table", rule_text, ("table", ()))

    def test_tables_that_are_not_right(self):
        self.assert_told("table 5:0", rule_text, ("table", (((5, 1), NOUGHT),)))
        self.assert_told("table" + " 0:0" * 30, rule_text, ("table", ((NOUGHT, NOUGHT),) * 30))

    def test_many(self):
        source = Random(22)
        for step in range(50):
            table = table_from(source, source.randrange(2, 13))
            told = " ".join(["table"] + [f"{figures(speed)}:{figures(power)}" for speed, power in table[1]])
            self.assert_told(told, rule_text, table)


class Plans(Case):
    def test_empty_turns(self):
        self.assert_told(["turn"] * 24, plan_lines, ((),) * 24)
        self.assert_told(["turn", "turn 0:1/2", "turn"], plan_lines, ((), ((0, (1, 2)),), ()))

    def test_any_number_of_turns(self):
        self.assert_told([], plan_lines, ())
        self.assert_told(["turn"], plan_lines, ((),))
        self.assert_told(["turn 3:2"] * 40, plan_lines, (((3, (2, 1)),),) * 40)

    def test_pieces_in_their_order(self):
        self.assert_told(["turn 2:1/2 0:3 1:10/3", "turn 19:1"], plan_lines,
                         (((2, (1, 2)), (0, (3, 1)), (1, (10, 3))), ((19, ONE),)))

    def test_plans_that_are_not_right(self):
        self.assert_told(["turn 100:0 100:0"], plan_lines, (((100, NOUGHT), (100, NOUGHT)),))

    def test_no_blank_at_an_end(self):
        source = Random(23)
        for step in range(40):
            sheet, order = sheet_from(source, source.randrange(1, 21), 10)
            for line in plan_lines(plan_from(source, sheet, order)) + sheet_lines(sheet) + [rule_text(("table", ()))]:
                self.assertIs(type(line), str)
                self.assertEqual(line, " ".join(line.split()))

    def test_many(self):
        source = Random(24)
        for step in range(40):
            plan = tuple([tuple([(source.randrange(30), ratio_from(source, 9, 9)) for piece in range(turn)])
                          for turn in range(source.randrange(6))])
            told = [" ".join(["turn"] + [f"{number}:{figures(amount)}" for number, amount in pieces])
                    for pieces in plan]
            self.assert_told(told, plan_lines, plan)

    def test_what_is_told_is_the_askers_own(self):
        sheet = (((0, 23, (3, 1)),), ())
        plan_lines(((),)).append("more")
        sheet_lines(sheet).append("more")
        self.assert_told(["turn"], plan_lines, ((),))
        self.assert_told(["work 0 23 3"], sheet_lines, sheet)


if __name__ == "__main__":
    unittest.main()

"""Points 8 and 9: rules of power, and their powers and slopes."""

import unittest
from fractions import Fraction
from random import Random

from paceplan.errors import NoRule, NoSpeed
from paceplan.rules import bears, plain_slope, power_at, right_rule, slopes_at, top_of
from support import NO_RATIOS, NOUGHT, ONE, STRAYS, Case, fraction, pair, ratio_from, table_from

# Slopes 1/2, 3/2, 3/2, 4.
ROWS = ((NOUGHT, (1, 3)), (ONE, (5, 6)), ((2, 1), (7, 3)), ((10, 3), (13, 3)), ((4, 1), (7, 1)))
TABLE = ("table", ROWS)
TWO_ROWS = ("table", ((NOUGHT, NOUGHT), ((3, 2), (1, 4))))
TINY = (1, 10 ** 30)


def long_rows(count):
    """Rows on the squares, so slopes rise."""
    return tuple([((step, 1), (step * step, 1)) for step in range(count)])


def moved(one, by, sign):
    return pair(fraction(one) + sign * fraction(by))


class RightRules(Case):
    def test_powers(self):
        for k in (2, 3, 4):
            self.assert_told(True, right_rule, ("power", k))

    def test_tables_of_two_to_twelve_rows(self):
        for count in range(2, 13):
            self.assert_told(True, right_rule, ("table", long_rows(count)))

    def test_slopes_that_stay_alike(self):
        alike = tuple([((step, 1), (2 * step, 1)) for step in range(12)])
        self.assert_told(True, right_rule, ("table", alike))
        self.assert_told(True, right_rule, TABLE)

    def test_a_first_power_of_nought_and_above_it(self):
        for power in (NOUGHT, TINY, (1, 2)):
            self.assert_told(True, right_rule, ("table", ((NOUGHT, power), (ONE, ONE))))

    def test_many(self):
        source = Random(8)
        for step in range(60):
            self.assert_told(True, right_rule, table_from(source, source.randrange(2, 13)))


class NoRules(Case):
    def test_any_thing(self):
        for thing in STRAYS:
            self.assert_refused(NoRule(-1), right_rule, thing)

    def test_no_tuple_of_two(self):
        for thing in (["power", 2], ["table", ROWS], ("power",), ("table",), ("power", 2, 2), ("table", ROWS, ROWS),
                      ("table",) + ROWS, "power 2", (("power", 2),)):
            self.assert_refused(NoRule(-1), right_rule, thing)

    def test_other_words(self):
        for word in ("Power", "powers", "", "tables", "rows", None, 2, True, ["power"], ("power",), "power "):
            self.assert_refused(NoRule(-1), right_rule, (word, 2))
            self.assert_refused(NoRule(-1), right_rule, (word, ROWS))

    def test_no_power(self):
        for k in (1, 5, 0, -2, True, False, None, "2", (2, 1), [2], (), 10 ** 199, ROWS):
            self.assert_refused(NoRule(-1), right_rule, ("power", k))

    def test_no_tuple_of_rows(self):
        for rows in (list(ROWS), None, 2, 3, True, "", "abc", (), ROWS[:1], long_rows(13), long_rows(14), (None,),
                     (None,) * 13, []):
            self.assert_refused(NoRule(-1), right_rule, ("table", rows))

    def assert_no_row(self, number, row):
        rows = ROWS[:number] + (row,) + ROWS[number + 1:]
        self.assert_refused(NoRule(number), right_rule, ("table", rows))

    def test_rows_that_are_no_pairs(self):
        for number, row in enumerate(ROWS):
            for thing in (None, True, 1, "ab", (), [], list(row), row[:1], row + row[:1], [row], (row,)):
                self.assert_no_row(number, thing)

    def test_parts_that_are_no_ratios(self):
        for number, row in enumerate(ROWS):
            for thing in NO_RATIOS:
                self.assert_no_row(number, (thing, row[1]))
                self.assert_no_row(number, (row[0], thing))
            self.assert_no_row(number, (list(row[0]), row[1]))
            self.assert_no_row(number, (row[0], list(row[1])))
            self.assert_no_row(number, ((2 * row[0][0], 2 * row[0][1]), row[1]))

    def test_a_first_speed_that_is_not_nought(self):
        for speed in (TINY, (-1, 2), ONE, (-1, 10 ** 30)):
            self.assert_no_row(0, (speed, (1, 3)))

    def test_a_first_power_below_nought(self):
        for power in ((-1, 1), (-1, 10 ** 30)):
            self.assert_no_row(0, (NOUGHT, power))

    def test_speeds_that_do_not_rise(self):
        for number in range(1, 5):
            ahead = ROWS[number - 1]
            for speed in (ahead[0], moved(ahead[0], TINY, -1), (-5, 1)):
                self.assert_no_row(number, (speed, ROWS[number][1]))

    def test_powers_that_do_not_rise(self):
        flat = ((NOUGHT, (1, 3)), (ONE, (1, 3)), ((2, 1), (5, 1)))
        self.assert_refused(NoRule(1), right_rule, ("table", flat))
        self.assert_refused(NoRule(1), right_rule, ("table", ((NOUGHT, ONE), (ONE, (1, 2)))))
        for number in range(1, 5):
            ahead = ROWS[number - 1]
            for power in (ahead[1], moved(ahead[1], TINY, -1), NOUGHT, (-1, 1)):
                self.assert_no_row(number, (ROWS[number][0], power))

    def test_slopes_less_than_the_one_ahead(self):
        for number in (3, 2):
            self.assert_no_row(number, (ROWS[number][0], moved(ROWS[number - 1][1], TINY, 1)))
        # Row 3 lies just on the line of the piece ahead: a little lower and its slope is less.
        self.assert_no_row(3, (ROWS[3][0], moved(ROWS[3][1], TINY, -1)))
        self.assert_no_row(3, (moved(ROWS[3][0], TINY, 1), ROWS[3][1]))
        self.assert_told(True, right_rule, ("table", ROWS[:3] + ((ROWS[3][0], moved(ROWS[3][1], TINY, 1)),)))

    def test_slopes_are_asked_piece_by_piece(self):
        dented = ((NOUGHT, NOUGHT), (ONE, ONE), ((2, 1), (5, 1)), ((3, 1), (8, 1)), ((4, 1), (20, 1)))
        self.assert_refused(NoRule(3), right_rule, ("table", dented))

    def test_the_least_number_goes(self):
        self.assert_refused(NoRule(1), right_rule, ("table", (ROWS[0], ROWS[0], None)))
        self.assert_refused(NoRule(2), right_rule, ("table", ROWS[:2] + (ROWS[1], None, 5)))
        self.assert_refused(NoRule(0), right_rule, ("table", ((ONE, ONE), None)))
        self.assert_refused(NoRule(0), right_rule, ("table", (None,) * 12))
        self.assert_refused(NoRule(11), right_rule, ("table", long_rows(11) + (None,)))
        self.assert_refused(NoRule(-1), right_rule, ("table", (None,) * 13))


class Powers(Case):
    def test_of_powers(self):
        for k, told in ((2, (9, 4)), (3, (27, 8)), (4, (81, 16))):
            self.assert_told(NOUGHT, power_at, ("power", k), NOUGHT)
            self.assert_told(ONE, power_at, ("power", k), ONE)
            self.assert_told((5 ** k, 1), power_at, ("power", k), (5, 1))
            self.assert_told(told, power_at, ("power", k), (3, 2))
            self.assert_told((10 ** (199 * k), 1), power_at, ("power", k), (10 ** 199, 1))

    def test_of_a_table_at_its_rows(self):
        for speed, power in ROWS:
            self.assert_told(power, power_at, TABLE, speed)
        self.assert_told(NOUGHT, power_at, TWO_ROWS, NOUGHT)
        self.assert_told((1, 4), power_at, TWO_ROWS, (3, 2))

    def test_of_a_table_between_rows(self):
        self.assert_told((7, 12), power_at, TABLE, (1, 2))
        self.assert_told((19, 12), power_at, TABLE, (3, 2))
        self.assert_told((23, 6), power_at, TABLE, (3, 1))
        self.assert_told((5, 1), power_at, TABLE, (7, 2))
        self.assert_told((1, 6), power_at, TWO_ROWS, ONE)
        self.assert_told((1, 24), power_at, TWO_ROWS, (1, 4))

    def test_above_the_greatest_speed(self):
        for speed in ((5, 1), moved((4, 1), TINY, 1), (10 ** 199, 1), (10 ** 199, 3)):
            self.assert_refused(NoSpeed(speed), power_at, TABLE, speed)
        self.assert_refused(NoSpeed((2, 1)), power_at, TWO_ROWS, (2, 1))

    def test_many_lie_on_the_line(self):
        source = Random(9)
        for step in range(200):
            table = table_from(source, source.randrange(2, 13))
            rows = [(fraction(speed), fraction(power)) for speed, power in table[1]]
            at = source.randrange(len(rows) - 1)
            part = Fraction(source.randrange(8), 7)
            speed = rows[at][0] + part * (rows[at + 1][0] - rows[at][0])
            power = rows[at][1] + part * (rows[at + 1][1] - rows[at][1])
            self.assert_told(pair(power), power_at, table, pair(speed))


class Slopes(Case):
    def assert_slopes(self, rule, speed, left, right):
        self.assert_told((left, right), slopes_at, rule, speed)
        self.assert_told(left if right is None else right, plain_slope, rule, speed)
        self.assert_told(True, bears, rule, speed, left)
        self.assert_told(False, bears, rule, speed, moved(left, TINY, -1))
        self.assert_told(right is None or left != right, bears, rule, speed, moved(left, TINY, 1))
        if right is None:
            self.assert_told(True, bears, rule, speed, (10 ** 199, 1))
        else:
            self.assert_told(True, bears, rule, speed, right)
            self.assert_told(True, bears, rule, speed, pair((fraction(left) + fraction(right)) / 2))
            self.assert_told(False, bears, rule, speed, moved(right, TINY, 1))
            self.assert_told(left != right, bears, rule, speed, moved(right, TINY, -1))

    def test_of_powers(self):
        for k, told in ((2, (3, 1)), (3, (27, 4)), (4, (27, 2))):
            self.assert_slopes(("power", k), NOUGHT, NOUGHT, NOUGHT)
            self.assert_slopes(("power", k), ONE, (k, 1), (k, 1))
            self.assert_slopes(("power", k), (3, 2), told, told)

    def test_within_a_piece(self):
        self.assert_slopes(TABLE, (1, 2), (1, 2), (1, 2))
        self.assert_slopes(TABLE, (3, 2), (3, 2), (3, 2))
        self.assert_slopes(TABLE, (3, 1), (3, 2), (3, 2))
        self.assert_slopes(TABLE, (7, 2), (4, 1), (4, 1))
        self.assert_slopes(TWO_ROWS, TINY, (1, 6), (1, 6))

    def test_at_a_row(self):
        self.assert_slopes(TABLE, ONE, (1, 2), (3, 2))
        self.assert_slopes(TABLE, (2, 1), (3, 2), (3, 2))
        self.assert_slopes(TABLE, (10, 3), (3, 2), (4, 1))

    def test_at_nought(self):
        self.assert_slopes(TABLE, NOUGHT, NOUGHT, (1, 2))
        self.assert_slopes(TWO_ROWS, NOUGHT, NOUGHT, (1, 6))

    def test_at_the_greatest_speed(self):
        self.assert_slopes(TABLE, (4, 1), (4, 1), None)
        self.assert_slopes(TWO_ROWS, (3, 2), (1, 6), None)

    def test_slopes_below_nought_bear_nothing(self):
        for rule in (TABLE, TWO_ROWS, ("power", 2), ("power", 3)):
            self.assert_told(False, bears, rule, NOUGHT, (-1, 1))

    def test_what_bears_lies_below_the_rule_everywhere(self):
        source = Random(10)
        seen = [0, 0]
        for step in range(300):
            rule = table_from(source, source.randrange(2, 7)) if step % 3 else ("power", source.randrange(2, 5))
            top = fraction(top_of(rule) or (4, 1))
            speeds = [top * part / 24 for part in range(25)]
            if step % 3:
                speeds.extend([fraction(row[0]) for row in rule[1]])
            here = source.choice(speeds)
            slope = pair(source.choice([fraction(plain_slope(rule, pair(source.choice(speeds)))),
                                        fraction(ratio_from(source, 5, 4))]))
            power = fraction(power_at(rule, pair(here)))
            below = all(fraction(power_at(rule, pair(speed))) >= power + fraction(slope) * (speed - here)
                        for speed in speeds)
            told = bears(rule, pair(here), slope)
            seen[told] += 1
            if told:
                self.assertTrue(below, (rule, here, slope))
            elif step % 3 and here > 0:
                self.assertFalse(below, (rule, here, slope))
        self.assertGreater(min(seen), 30)


class Tops(Case):
    def test_of_both_kinds(self):
        for k in (2, 3, 4):
            self.assert_told(None, top_of, ("power", k))
        self.assert_told((4, 1), top_of, TABLE)
        self.assert_told((3, 2), top_of, TWO_ROWS)


if __name__ == "__main__":
    unittest.main()

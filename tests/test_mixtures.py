"""Points 10 and 11: tables of a few speeds, and mixtures."""

import unittest
from fractions import Fraction
from random import Random

from paceplan.errors import NoMix, NoSpeed
from paceplan.mixtures import few_table, mix_asked, mixed_power, mixture
from paceplan.rules import power_at, right_rule, top_of
from support import NO_RATIOS, NOUGHT, ONE, STRAYS, Case, fraction, pair, ratio_from, table_from

HALF = (1, 2)
THIRD = (1, 3)
# Slopes 1/2, 3/2, 4.
TABLE = ("table", ((NOUGHT, (1, 3)), (ONE, (5, 6)), ((2, 1), (7, 3)), ((4, 1), (31, 3))))
# Its rows lie on one line, so that a far mixture has no more power than a near one.
STRAIGHT = ("table", tuple([((step, 1), (3 * step + 1, 1)) for step in range(5)]))


def mean_of(mix):
    return pair(sum([fraction(speed) * fraction(part) for speed, part in mix]))


def mix_from(source, table):
    """A mixture of some of a table's rows, near ones or not."""
    rows = sorted(source.sample(range(len(table[1])), source.randrange(1, len(table[1]) + 1)))
    shares = [source.randrange(1, 9) for row in rows]
    return tuple([(table[1][row][0], pair(Fraction(share, sum(shares)))) for row, share in zip(rows, shares)])


class FewTables(Case):
    def test_of_powers(self):
        self.assert_told(("table", ((NOUGHT, NOUGHT), ((3, 2), (9, 4)))), few_table, ("power", 2), ((3, 2),))
        self.assert_told(("table", ((NOUGHT, NOUGHT), (HALF, (1, 8)), (ONE, ONE), ((3, 1), (27, 1)))),
                         few_table, ("power", 3), (HALF, ONE, (3, 1)))
        self.assert_told(("table", ((NOUGHT, NOUGHT), ((2, 1), (16, 1)))), few_table, ("power", 4), ((2, 1),))

    def test_of_eleven_speeds(self):
        speeds = tuple([(step, 1) for step in range(1, 12)])
        rows = tuple([((step, 1), (step * step, 1)) for step in range(12)])
        self.assert_told(("table", rows), few_table, ("power", 2), speeds)

    def test_of_a_table_at_its_rows(self):
        self.assert_told(TABLE, few_table, TABLE, (ONE, (2, 1), (4, 1)))
        self.assert_told(("table", (TABLE[1][0], TABLE[1][3])), few_table, TABLE, ((4, 1),))

    def test_of_a_table_between_rows(self):
        self.assert_told(("table", ((NOUGHT, THIRD), (HALF, (7, 12)), ((3, 1), (19, 3)))),
                         few_table, TABLE, (HALF, (3, 1)))

    def test_above_the_greatest_speed(self):
        above = (4 * 10 ** 30 + 1, 10 ** 30)
        self.assert_refused(NoSpeed(above), few_table, TABLE, (above,))
        self.assert_refused(NoSpeed(above), few_table, TABLE, (ONE, (4, 1), above, (5, 1)))
        self.assert_refused(NoSpeed((5, 1)), few_table, TABLE, ((5, 1), (6, 1)))

    def test_many_are_rules(self):
        source = Random(11)
        for step in range(100):
            rule = table_from(source, source.randrange(2, 13)) if step % 2 else ("power", source.randrange(2, 5))
            top = fraction(top_of(rule) or (9, 1))
            parts = sorted(source.sample(range(1, 25), source.randrange(1, 12)))
            speeds = tuple([pair(top * part / 24) for part in parts])
            table = few_table(rule, speeds)
            self.assertIs(right_rule(table), True)
            self.assertEqual(table[1][0], (NOUGHT, power_at(rule, NOUGHT)))
            self.assertEqual(table[1][1:], tuple([(speed, power_at(rule, speed)) for speed in speeds]))


class Mixtures(Case):
    def assert_mixture(self, table, speed, mix):
        self.assert_told(mix, mixture, table, speed)
        self.assert_told(True, mix_asked, table, speed, mix)
        self.assert_told(power_at(table, speed), mixed_power, table, mix)

    def test_at_rows(self):
        for speed, power in TABLE[1]:
            self.assert_mixture(TABLE, speed, ((speed, ONE),))

    def test_between_rows(self):
        self.assert_mixture(TABLE, THIRD, ((NOUGHT, (2, 3)), (ONE, THIRD)))
        self.assert_mixture(TABLE, (7, 4), ((ONE, (1, 4)), ((2, 1), (3, 4))))
        self.assert_mixture(TABLE, (3, 1), (((2, 1), HALF), ((4, 1), HALF)))
        self.assert_mixture(STRAIGHT, (1, 10 ** 40), ((NOUGHT, (10 ** 40 - 1, 10 ** 40)), (ONE, (1, 10 ** 40))))

    def test_power_of_other_mixtures(self):
        self.assert_told((7, 6), mixed_power, TABLE, ((NOUGHT, THIRD), (ONE, THIRD), ((2, 1), THIRD)))
        self.assert_told((16, 3), mixed_power, TABLE, ((NOUGHT, HALF), ((4, 1), HALF)))
        self.assert_told((13, 1), mixed_power, STRAIGHT, (((4, 1), ONE),))
        self.assert_told((7, 1), mixed_power, STRAIGHT, ((NOUGHT, HALF), ((4, 1), HALF)))

    def test_no_mixture_has_less(self):
        source = Random(12)
        for step in range(200):
            table = table_from(source, source.randrange(2, 13))
            mix = mix_from(source, table)
            power = sum([fraction(power_at(table, speed)) * fraction(part) for speed, part in mix])
            self.assert_told(pair(power), mixed_power, table, mix)
            self.assertLessEqual(fraction(power_at(table, mean_of(mix))), power)

    def test_many(self):
        source = Random(13)
        for step in range(200):
            table = table_from(source, source.randrange(2, 13))
            speed = pair(fraction(top_of(table)) * source.randrange(61) / 60)
            told = mixture(table, speed)
            self.assertIs(mix_asked(table, speed, told), True)
            self.assertEqual(mixed_power(table, told), power_at(table, speed))
            self.assertEqual(mean_of(told), speed)


class Asked(Case):
    def refuse(self, word, number, speed, thing, table=TABLE):
        self.assert_refused(NoMix(word, number), mix_asked, table, speed, thing)

    def test_any_thing(self):
        for thing in STRAYS:
            if thing != (((1, 1), (1, 1)),):
                self.refuse("shape", -1, ONE, thing)

    def test_shapes(self):
        right = ((ONE, HALF), ((2, 1), HALF))
        for thing in (list(right), [list(pair_of) for pair_of in right], tuple([list(pair_of) for pair_of in right]),
                      (right[0], list(right[1])), right[0], (right,), right + ((),), right + (None,), (right[0][:1],),
                      (right[0] + (ONE,), right[1]), ((ONE,), right[1]), (right[0], right[1][::-1] + (ONE,))):
            self.refuse("shape", -1, (3, 2), thing)

    def test_parts_that_are_no_ratios(self):
        for thing in NO_RATIOS:
            self.refuse("shape", -1, ONE, ((thing, ONE),))
            self.refuse("shape", -1, ONE, ((ONE, thing),))
            self.refuse("shape", -1, ONE, ((ONE, HALF), ((2, 1), thing)))
            self.refuse("shape", -1, ONE, ((ONE, HALF), (thing, HALF)))

    def test_speeds_of_no_row(self):
        self.refuse("speed", 0, (3, 2), (((3, 2), ONE),))
        self.refuse("speed", 1, (3, 2), ((ONE, HALF), ((3, 1), HALF)))
        self.refuse("speed", 0, (-1, 1), (((-1, 1), ONE),))
        self.refuse("speed", 0, (5, 1), (((5, 1), ONE),))
        self.refuse("speed", 2, ONE, ((NOUGHT, HALF), (ONE, HALF), (THIRD, HALF), ((7, 1), HALF)))

    def test_speeds_that_do_not_rise(self):
        self.refuse("speed", 1, ONE, ((ONE, HALF), (ONE, HALF)))
        self.refuse("speed", 1, (3, 2), (((2, 1), HALF), (ONE, HALF)))
        self.refuse("speed", 2, ONE, ((NOUGHT, HALF), ((2, 1), HALF), (ONE, HALF), (NOUGHT, HALF)))

    def test_parts_not_above_nought(self):
        self.refuse("part", 0, ONE, ((NOUGHT, NOUGHT), (ONE, ONE)))
        self.refuse("part", 1, ONE, ((ONE, ONE), ((2, 1), NOUGHT)))
        self.refuse("part", 1, NOUGHT, ((NOUGHT, (2, 1)), (ONE, (-1, 1))))
        self.refuse("part", 0, (3, 1), ((ONE, (-1, 1)), ((2, 1), (2, 1))))
        self.refuse("part", 0, ONE, ((ONE, (-1, 10 ** 30)),))

    def test_parts_that_do_not_come_to_one(self):
        self.refuse("whole", -1, HALF, ((ONE, HALF),))
        self.refuse("whole", -1, (2, 1), ((ONE, (2, 1)),))
        self.refuse("whole", -1, (3, 2), ((ONE, HALF), ((2, 1), (10 ** 30 + 1, 2 * 10 ** 30))))
        self.refuse("whole", -1, (3, 2), ((ONE, HALF), ((2, 1), THIRD)))

    def test_means(self):
        self.refuse("mean", -1, (2, 1), ((ONE, ONE),))
        self.refuse("mean", -1, NOUGHT, ((ONE, ONE),))
        self.refuse("mean", -1, (3, 2), ((ONE, THIRD), ((2, 1), (2, 3))))
        self.refuse("mean", -1, (5, 1), (((4, 1), ONE),))
        self.refuse("mean", -1, (3 * 10 ** 30 + 1, 2 * 10 ** 30), ((ONE, HALF), ((2, 1), HALF)))

    def test_far_ones(self):
        self.refuse("far", -1, ONE, ((NOUGHT, THIRD), (ONE, THIRD), ((2, 1), THIRD)))
        self.refuse("far", -1, ONE, ((NOUGHT, HALF), ((2, 1), HALF)))
        self.refuse("far", -1, (2, 1), ((NOUGHT, HALF), ((4, 1), HALF)))
        self.refuse("far", -1, (5, 2), ((ONE, HALF), ((4, 1), HALF)))

    def test_far_ones_of_no_more_power(self):
        self.refuse("far", -1, ONE, ((NOUGHT, HALF), ((2, 1), HALF)), STRAIGHT)
        self.refuse("far", -1, (2, 1), ((ONE, THIRD), ((2, 1), THIRD), ((3, 1), THIRD)), STRAIGHT)

    def test_the_order_of_refusals(self):
        self.refuse("shape", -1, ONE, (((9, 1), NOUGHT), (ONE, 5)))
        self.refuse("speed", 1, ONE, ((ONE, NOUGHT), (ONE, HALF)))
        self.refuse("speed", 2, ONE, ((NOUGHT, (-1, 1)), (ONE, HALF), ((9, 1), ONE)))
        self.refuse("part", 1, ONE, ((ONE, (3, 1)), ((2, 1), NOUGHT), ((4, 1), NOUGHT)))
        self.refuse("whole", -1, (3, 1), ((NOUGHT, HALF), ((4, 1), THIRD)))
        self.refuse("mean", -1, (3, 1), ((NOUGHT, HALF), ((4, 1), HALF)))
        self.refuse("mean", -1, (2, 1), ((NOUGHT, THIRD), (ONE, THIRD), ((2, 1), THIRD)))

    def test_what_is_let_by_has_the_power_of_the_table(self):
        source = Random(14)
        seen = {"far": 0, True: 0}
        for step in range(400):
            table = table_from(source, source.randrange(2, 5))
            mix = mix_from(source, table)
            speed = mean_of(mix)
            try:
                told = mix_asked(table, speed, mix)
            except NoMix as refusal:
                told = refusal.word
            near = [[row[0] for row in table[1]].index(part[0]) for part in mix]
            self.assertEqual(told, True if len(near) == near[-1] - near[0] + 1 < 3 else "far")
            seen[told] += 1
            if told is True:
                self.assertEqual(mixed_power(table, mix), power_at(table, speed))
                self.assertEqual(mix, mixture(table, speed))
        self.assertGreater(min(seen.values()), 50)

    def test_one_mixture_alone_fits_a_speed(self):
        source = Random(15)
        for step in range(100):
            table = table_from(source, 4)
            speed = ratio_from(source, 1, 3)
            if fraction(speed) <= fraction(top_of(table)):
                other = mixture(table, pair(fraction(speed) / 2))
                self.refuse("mean", -1, speed, other, table)


if __name__ == "__main__":
    unittest.main()

"""Points 35 and 36: bills, and the keeper's bill against any right plan."""

import copy
import unittest
from fractions import Fraction
from random import Random

from paceplan.bills import bill, lets_bill
from paceplan.dealing import least_plan
from paceplan.errors import NoBill
from paceplan.keeper import kept_plan
from paceplan.plans import power_of, right_plan, speeds_of
from support import NO_RATIOS, NOUGHT, ONE, STRAYS, Case, fraction, pair, ratio_from, works_and_plan, works_from

HALF = (1, 2)
TINY = Fraction(1, 10 ** 30)
KS = (2, 3, 4)


def greatest_bill(k, one, other, begin=Fraction(0)):
    """From a beginning on a bill that is in each turn just as great as may be, in Fractions."""
    row = [begin]
    for mine, yours in zip(one, other):
        row.append(row[-1] + k ** k * fraction(yours) ** k - fraction(mine) ** k)
    return row


def as_pairs(row):
    return tuple([pair(Fraction(part)) for part in row])


def speeds_from(source, count):
    return tuple([source.choice((NOUGHT, ratio_from(source, 4, 3))) for turn in range(count)])


def verdict_by_words(k, one, other, row):
    """What a bill of the right shape is told, in Fractions."""
    if row[0] > 0:
        return ("begin", 0)
    for turn in range(len(one)):
        if fraction(one[turn]) ** k + row[turn + 1] - row[turn] > k ** k * fraction(other[turn]) ** k:
            return ("turn", turn)
    if row[-1] < 0:
        return ("end", len(one))
    return True


class Bills(Case):
    def let_by(self, k, one, other, row):
        self.assert_told(True, lets_bill, k, one, other, as_pairs(row))

    def refuse(self, word, number, k, one, other, thing):
        self.assert_refused(NoBill(word, number), lets_bill, k, one, other, thing)

    def test_of_no_turns(self):
        for k in KS:
            self.let_by(k, (), (), [0])
            self.refuse("begin", 0, k, (), (), (pair(TINY),))
            self.refuse("end", 0, k, (), (), (pair(-TINY),))

    def test_of_one_turn(self):
        for k, most in ((2, 4), (3, 27), (4, 256)):
            one = ((k, 1),)
            self.let_by(k, one, (ONE,), [0, 0])
            self.let_by(k, (NOUGHT,), (ONE,), [0, most])
            self.let_by(k, (NOUGHT,), (ONE,), [-most, 0])
            self.let_by(k, (NOUGHT,), (NOUGHT,), [0, 0])
            self.let_by(k, (ONE,), (ONE,), [0, most - 1])
            self.let_by(k, (ONE,), (HALF,), [0, Fraction(most, 2 ** k) - 1])
            self.refuse("turn", 0, k, one, (ONE,), as_pairs([0, TINY]))
            self.refuse("turn", 0, k, (NOUGHT,), (ONE,), as_pairs([0, most + TINY]))
            self.refuse("turn", 0, k, (pair(k + TINY),), (ONE,), as_pairs([0, 0]))
            self.refuse("turn", 0, k, (ONE,), (NOUGHT,), as_pairs([0, 0]))

    def test_a_beginning_below_nought(self):
        self.let_by(2, (ONE,), (ONE,), [-3, 0])
        self.let_by(2, (ONE,), (ONE,), [-1, 2])
        self.refuse("turn", 0, 2, (ONE,), (ONE,), as_pairs([-4, 0]))

    def test_of_some_turns(self):
        one = ((2, 1), ONE, NOUGHT, (3, 1))
        other = (ONE, ONE, ONE, (3, 2))
        self.let_by(2, one, other, [0, 0, 3, 7, 7])
        self.let_by(2, one, other, [0, 0, 0, 0, 0])
        self.let_by(2, one, other, [0, -5, -2, 2, 0])
        self.refuse("turn", 2, 2, one, other, as_pairs([0, 0, 3, 7 + TINY, 7]))
        self.refuse("turn", 3, 2, one, other, as_pairs([0, 0, 3, 7, 7 + TINY]))
        self.refuse("end", 4, 2, one, other, as_pairs([0, 0, 3, 7, -TINY]))

    def test_just_as_great_as_may_be_and_a_little_more(self):
        source = Random(351)
        for step in range(40):
            k = source.choice(KS)
            count = source.choice((1, 2, 7, 24, 60))
            one = speeds_from(source, count)
            # The other's speeds are no less than those of the one, so the bill ends above nought.
            other = tuple([pair(fraction(speed) + source.randrange(2)) for speed in one])
            row = greatest_bill(k, one, other)
            self.let_by(k, one, other, row)
            at = source.randrange(count)
            more = row[:at + 1] + [part + TINY for part in row[at + 1:]]
            self.refuse("turn", at, k, one, other, as_pairs(more))
            less = row[:at + 1] + [part - TINY for part in row[at + 1:]]
            if less[-1] >= 0:
                self.let_by(k, one, other, less)

    def test_of_sixty_turns(self):
        self.let_by(2, (ONE,) * 60, (HALF,) * 60, [0] * 61)
        self.refuse("turn", 59, 2, (ONE,) * 60, (HALF,) * 60, as_pairs([0] * 60 + [TINY]))
        self.refuse("end", 60, 2, (ONE,) * 60, (HALF,) * 60, as_pairs([0] * 60 + [-TINY]))
        self.refuse("shape", -1, 2, (ONE,) * 60, (HALF,) * 60, as_pairs([0] * 60))

    def test_any_thing(self):
        for thing in STRAYS:
            self.refuse("shape", -1, 2, (ONE,) * 5, (ONE,) * 5, thing)
            if thing not in (((1, 1),), [(1, 1)]):
                self.refuse("shape", -1, 2, (), (), thing)
        self.refuse("shape", -1, 2, (), (), [(1, 1)])
        self.refuse("begin", 0, 2, (), (), ((1, 1),))

    def test_shapes(self):
        good = (NOUGHT, NOUGHT, NOUGHT)
        one = (ONE, ONE)
        self.assert_told(True, lets_bill, 2, one, one, good)
        for thing in (list(good), good[:2], good + (NOUGHT,), (), (good,), NOUGHT, "000", None):
            self.refuse("shape", -1, 2, one, one, thing)
        for part in NO_RATIOS:
            for at in range(3):
                self.refuse("shape", -1, 2, one, one, good[:at] + (part,) + good[at + 1:])

    def test_the_order_of_refusals(self):
        one = (ONE, ONE)
        none = (NOUGHT, NOUGHT)
        self.refuse("shape", -1, 2, one, none, (ONE, (9, 1), True))
        self.refuse("begin", 0, 2, one, none, (ONE, (9, 1), (-1, 1)))
        self.refuse("turn", 0, 2, one, none, (NOUGHT, (9, 1), (-1, 1)))
        self.refuse("turn", 0, 2, one, none, (NOUGHT, (9, 1), (99, 1)))
        self.refuse("turn", 1, 2, one, none, (NOUGHT, (-1, 1), (-1, 1)))
        self.refuse("end", 2, 2, one, none, (NOUGHT, (-1, 1), (-2, 1)))

    def test_by_the_words(self):
        source = Random(352)
        for step in range(300):
            k = source.choice(KS)
            count = source.randrange(6)
            one = speeds_from(source, count)
            other = speeds_from(source, count)
            row = greatest_bill(k, one, other, Fraction(source.choice((0, 0, 0, -1, 1))))
            row = [part + source.choice((0, 0, 0, 0, -1, 1)) for part in row]
            verdict = verdict_by_words(k, one, other, row)
            if verdict is True:
                self.let_by(k, one, other, row)
            else:
                self.refuse(verdict[0], verdict[1], k, one, other, as_pairs(row))

    def test_let_by_shows_the_bound_of_powers(self):
        source = Random(353)
        let_by = 0
        for step in range(300):
            k = source.choice(KS)
            count = source.randrange(1, 6)
            one = speeds_from(source, count)
            other = speeds_from(source, count)
            row = greatest_bill(k, one, other)
            fits = fraction(power_of(("power", k), one)) <= k ** k * fraction(power_of(("power", k), other))
            self.assertEqual(verdict_by_words(k, one, other, row) is True, fits)
            let_by += fits
            if fits:
                self.let_by(k, one, other, row)
            else:
                self.refuse("end", count, k, one, other, as_pairs(row))
        self.assertGreater(let_by, 50)


class KeepersBill(Case):
    def assert_shown(self, works, k, plan):
        kept = copy.deepcopy((works, plan))
        told = bill(works, k, plan)
        self.assertEqual((works, plan), kept)
        self.assertIs(type(told), tuple)
        self.assertEqual(len(told), 25)
        self.assert_told(True, lets_bill, k, speeds_of(kept_plan(works)), speeds_of(plan), told)

    def test_of_no_works(self):
        for k in KS:
            self.assert_shown((), k, ((),) * 24)

    def test_of_one_work(self):
        works = ((3, 6, (4, 1)),)
        for k in KS:
            self.assert_shown(works, k, least_plan((works, ())))
            for turn in range(3, 7):
                plan = tuple([((0, (4, 1)),) if turn == at else () for at in range(24)])
                self.assertIs(right_plan((works, ()), plan), True)
                self.assert_shown(works, k, plan)

    def test_works_that_come_behind_one_another(self):
        works = tuple([(turn, 23, (turn + 1, 1)) for turn in range(20)])
        for k in KS:
            self.assert_shown(works, k, least_plan((works, ())))
            self.assert_shown(works, k, kept_plan(works))

    def test_many(self):
        source = Random(361)
        for step in range(8):
            works, plan = works_and_plan(source, 12)
            for k in KS:
                self.assert_shown(works, k, plan)
                self.assert_shown(works, k, least_plan((works, ())))
                self.assert_shown(works, k, kept_plan(works))

    def test_twenty_works(self):
        works = works_from(Random(362), 20)
        for k in KS:
            self.assert_shown(works, k, least_plan((works, ())))


if __name__ == "__main__":
    unittest.main()

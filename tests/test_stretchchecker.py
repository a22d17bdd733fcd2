"""Points 21 and 22: the checker of papers of stretches, and the bound of such a paper."""

import unittest
from fractions import Fraction
from random import Random

from paceplan.dealing import least_plan
from paceplan.errors import NoSpeed, NoStretch
from paceplan.plans import power_of, speeds_of
from paceplan.rules import power_at
from paceplan.stretchchecker import lets_stretches, stretch_bound
from paceplan.stretches import layers
from support import (NOUGHT, ONE, STRAYS, Case, fraction, high_table, pair, plan_from, sheet_from, table_from,
                     works_from)

HALF = (1, 2)
ALL = tuple(range(24))
WORKS = ((2, 7, (2, 1)), (4, 5, (3, 1)), (10, 10, HALF))
PAPER = (((4, 5), (1,)), ((2, 3, 6, 7), (0,)), ((10,), (2,)))
RULES = (("power", 2), ("power", 3), ("power", 4))


def verdict_by_words(works, paper):
    """What a paper of the right shape is told, by the document's words one after the other."""
    count = len(paper)
    ahead = [[set().union(*[pair_of[part] for pair_of in paper[:n]]) for n in range(count + 1)] for part in (0, 1)]
    for part, word in ((0, "turn"), (1, "work")):
        for n in range(count):
            if set(paper[n][part]) & ahead[part][n]:
                return (word, n)
    if len(ahead[1][count]) < len(works):
        return ("lacks", -1)
    for n in range(count):
        for number in paper[n][1]:
            if not set(range(works[number][0], works[number][1] + 1)) <= ahead[0][n + 1]:
                return ("window", n)
    loads = [sum([fraction(works[number][2]) for number in numbers], Fraction(0)) / len(turns)
             for turns, numbers in paper]
    for n in range(1, count):
        if loads[n] > loads[n - 1]:
            return ("falls", n)
    return True


def verdict_of(works, paper):
    try:
        return lets_stretches(works, paper)
    except NoStretch as refusal:
        return (refusal.word, refusal.number)


def rising(numbers):
    return tuple(sorted(numbers))


def paper_from(source, works):
    """A paper whose works stand late enough for their windows; it may rise, and mostly is not the layers."""
    turns = list(ALL)
    source.shuffle(turns)
    cuts = sorted(source.sample(range(1, 24), source.randrange(4)))
    parts = [turns[low:high] for low, high in zip([0] + cuts, cuts + [24])]
    if source.randrange(3) == 0:
        used = {turn for first, last, amount in works for turn in range(first, last + 1)}
        parts = [part for part in [[turn for turn in part if turn in used] for part in parts] if part]
    seen = set()
    left = list(range(len(works)))
    paper = []
    for part in parts:
        seen.update(part)
        inside = [number for number in left if set(range(works[number][0], works[number][1] + 1)) <= seen]
        left = [number for number in left if number not in inside]
        paper.append((rising(part), rising(inside)))
    return tuple(paper)


def merged_from(source, works):
    """The layers with some neighbours put together: let by, but of a lower bound."""
    paper = list(layers(works))
    for step in range(source.randrange(len(paper))):
        at = source.randrange(len(paper) - 1)
        turns = rising(paper[at][0] + paper[at + 1][0])
        paper[at:at + 2] = [(turns, rising(paper[at][1] + paper[at + 1][1]))]
    return tuple(paper)


class LetBy(Case):
    def test_the_layers(self):
        self.assertEqual(layers(WORKS)[0], PAPER[0])
        self.assert_told(True, lets_stretches, WORKS, layers(WORKS))
        self.assert_told(True, lets_stretches, WORKS, PAPER)

    def test_of_no_works(self):
        self.assert_told(True, lets_stretches, (), ())

    def test_pairs_without_works(self):
        self.assert_told(True, lets_stretches, (), (((3,), ()),))
        self.assert_told(True, lets_stretches, (), (((3, 4), ()), ((0, 23), ())))
        self.assert_told(True, lets_stretches, WORKS, PAPER + (((0, 1, 23), ()),))
        self.assert_told(True, lets_stretches, WORKS, PAPER + (((0, 1, 23), ()), ((20,), ())))

    def test_papers_other_than_the_layers(self):
        self.assert_told(True, lets_stretches, WORKS, ((ALL, (0, 1, 2)),))
        self.assert_told(True, lets_stretches, WORKS, (((2, 3, 4, 5, 6, 7), (0, 1)), ((10,), (2,))))
        self.assert_told(True, lets_stretches, WORKS, (((4, 5), (1,)), ((2, 3, 6, 7, 10), (0, 2))))

    def test_like_densities_one_behind_the_other(self):
        works = ((2, 2, ONE), (5, 6, (2, 1)))
        self.assert_told(True, lets_stretches, works, (((2,), (0,)), ((5, 6), (1,))))
        self.assert_told(True, lets_stretches, works, (((5, 6), (1,)), ((2,), (0,))))

    def test_many_layers(self):
        source = Random(42)
        for step in range(100):
            works = works_from(source, source.randrange(21))
            self.assert_told(True, lets_stretches, works, layers(works))


class Refused(Case):
    def refuse(self, word, number, thing, works=WORKS):
        self.assert_refused(NoStretch(word, number), lets_stretches, works, thing)

    def test_any_thing(self):
        for thing in STRAYS:
            if thing != ():
                self.refuse("shape", -1, thing)
                self.refuse("shape", -1, thing, ())
        self.refuse("lacks", -1, ())

    def test_lists_for_tuples(self):
        self.refuse("shape", -1, list(PAPER))
        self.refuse("shape", -1, (list(PAPER[0]),) + PAPER[1:])
        self.refuse("shape", -1, (([4, 5], (1,)),) + PAPER[1:])
        self.refuse("shape", -1, (((4, 5), [1]),) + PAPER[1:])
        self.refuse("shape", -1, [], ())

    def test_no_pairs(self):
        for thing in (None, True, 0, "ab", (), ((4, 5),), ((4, 5), (1,), ()), ((4, 5), (1,), (1,)), (4, 5), (4, (1,)),
                      ((4, 5), 1), ((4, 5), None), (None, (1,)), ("45", (1,)), ((4, 5), "1")):
            self.refuse("shape", -1, (thing,) + PAPER[1:])
            self.refuse("shape", -1, PAPER[1:] + (thing,))

    def test_no_turns(self):
        self.refuse("shape", -1, PAPER + (((), ()),))
        self.refuse("shape", -1, PAPER[:2] + (((), (2,)),))
        self.refuse("shape", -1, (((), ()),), ())

    def test_turns_that_are_none(self):
        for turns in ((5, 4), (4, 4), (4, 5, 5), (5, 6, 4), (-1, 4), (4, 24), (4, 5, 10 ** 199), (4, True), (False, 4),
                      (4, "5"), (4, None), (4, (5,)), (4, [5]), (True,), ((4, 5),)):
            self.refuse("shape", -1, ((turns, (1,)),) + PAPER[1:])
            self.refuse("shape", -1, PAPER + ((turns, ()),))

    def test_works_that_are_none(self):
        for numbers in ((1, 0), (1, 1), (0, 2, 1), (3,), (1, 3), (-1, 1), (True,), (0, True), (False, 1), ("1",),
                        (None,), ((1,),), (1, 10 ** 199)):
            self.refuse("shape", -1, (((4, 5), numbers),) + PAPER[1:])
        self.refuse("shape", -1, (((4, 5), (0,)),), ())

    def test_turns_that_stand_ahead(self):
        self.refuse("turn", 1, (PAPER[0], ((2, 3, 5, 6, 7), (0,)), PAPER[2]))
        self.refuse("turn", 3, PAPER + (((4,), ()),))
        self.refuse("turn", 2, PAPER[:2] + (((2, 10), (2,)), ((2, 4), ())))
        self.refuse("turn", 1, (((3,), ()), ((3,), ())), ())

    def test_works_that_stand_ahead(self):
        self.refuse("work", 1, (PAPER[0], ((2, 3, 6, 7), (0, 1)), PAPER[2]))
        self.refuse("work", 3, PAPER + (((20,), (1,)),))
        self.refuse("work", 2, PAPER[:2] + (((10,), (0, 2)), ((11,), (0,))))

    def test_works_that_stand_in_none(self):
        self.refuse("lacks", -1, PAPER[:2])
        self.refuse("lacks", -1, PAPER[1:])
        self.refuse("lacks", -1, ((ALL, (0, 2)),))
        self.refuse("lacks", -1, ((ALL, ()),))

    def test_windows(self):
        self.refuse("window", 0, (PAPER[1], PAPER[0], PAPER[2]))
        self.refuse("window", 0, (((4,), (1,)), ((2, 3, 5, 6, 7), (0,)), PAPER[2]))
        self.refuse("window", 1, (PAPER[0], ((2, 3, 7), (0,)), PAPER[2]))
        self.refuse("window", 1, (PAPER[0], ((2, 3, 6), (0,)), PAPER[2], ((7,), ())))
        self.refuse("window", 2, PAPER[:2] + (((9, 11), (2,)),))
        self.refuse("window", 1, (PAPER[0], ((3, 6, 7), (0,)), PAPER[2]))

    def test_the_least_pair_with_such_a_window(self):
        self.refuse("window", 1, (PAPER[0], ((2, 3, 7), (0,)), ((11,), (2,))))
        self.refuse("window", 0, (((4,), (1,)), ((2, 3, 7), (0,)), ((11,), (2,))))

    def test_densities_that_rise(self):
        self.refuse("falls", 1, (PAPER[2], PAPER[0], PAPER[1]))
        self.refuse("falls", 2, (PAPER[0], ((2, 3, 6, 7, 8, 9), (0,)), PAPER[2]))
        self.refuse("falls", 1, (((0,), ()),) + PAPER)
        self.refuse("falls", 2, PAPER[:1] + (((20,), ()),) + PAPER[1:])
        self.refuse("falls", 2, (PAPER[0], ((20,), ()), PAPER[2], PAPER[1]))

    def test_densities_are_asked_against_the_one_ahead(self):
        works = ((0, 0, (5, 1)), (1, 1, ONE), (2, 2, (3, 1)), (3, 3, (4, 1)))
        self.refuse("falls", 2, tuple([((number,), (number,)) for number in range(4)]), works)
        tiny = ((0, 0, ONE), (1, 1, (10 ** 30 + 1, 10 ** 30)))
        self.refuse("falls", 1, (((0,), (0,)), ((1,), (1,))), tiny)

    def test_shape_ahead_of_all(self):
        self.refuse("shape", -1, (PAPER[0], PAPER[0], None))
        self.refuse("shape", -1, (PAPER[1], PAPER[0], ((10,), (3,))))

    def test_turn_ahead_of_work_and_the_rest(self):
        self.refuse("turn", 2, (PAPER[1], ((0,), (0,)), ((2,), ())))
        self.refuse("turn", 1, (PAPER[1], PAPER[1]))
        self.refuse("turn", 3, (PAPER[0], ((20,), (1,)), ((21,), (1,)), ((21,), ())))

    def test_work_ahead_of_the_rest(self):
        self.refuse("work", 2, (PAPER[1], PAPER[0], ((20,), (1,))))
        self.refuse("work", 1, (PAPER[2], ((20,), (2,))))

    def test_lacks_ahead_of_window_and_falls(self):
        self.refuse("lacks", -1, (PAPER[1], PAPER[0]))
        self.refuse("lacks", -1, (PAPER[2], PAPER[0]))

    def test_window_ahead_of_falls(self):
        self.refuse("window", 2, (PAPER[2], PAPER[0], ((2, 3, 6), (0,))))

    def test_many_against_the_words(self):
        source = Random(43)
        seen = {}
        for step in range(1500):
            works = works_from(source, source.randrange(1, 6))
            paper = list(source.choice([layers, lambda some: paper_from(source, some)])(works))
            for change in range(source.randrange(3)):
                self.change(source, paper, len(works))
            told = verdict_of(works, tuple(paper))
            self.assertEqual(told, verdict_by_words(works, tuple(paper)))
            word = told if told is True else told[0]
            seen[word] = seen.get(word, 0) + 1
        self.assertEqual(len(seen), 6)
        self.assertGreater(min(seen.values()), 30)

    def change(self, source, paper, count):
        """Something of a paper made otherwise, so that its shape stays right."""
        at = source.randrange(len(paper))
        turns, numbers = paper[at]
        kind = source.randrange(5)
        if kind == 0:
            paper[at] = (rising(set(turns) ^ {source.randrange(24)}) or (0,), numbers)
        elif kind == 1:
            paper[at] = (turns, rising(set(numbers) ^ {source.randrange(count)}))
        elif kind == 2:
            paper.insert(source.randrange(len(paper)), paper.pop(at))
        elif kind == 3:
            paper.append((rising(source.sample(ALL, 2)), ()))
        else:
            other = source.randrange(len(paper))
            paper[at], paper[other] = (paper[at][0], paper[other][1]), (paper[other][0], paper[at][1])


class Bounds(Case):
    TABLE = ("table", ((NOUGHT, (1, 3)), (ONE, (5, 6)), ((2, 1), (7, 3))))

    def test_by_powers(self):
        self.assert_told((23, 4), stretch_bound, WORKS, ("power", 2), PAPER)
        self.assert_told((59, 8), stretch_bound, WORKS, ("power", 3), PAPER)
        self.assert_told((167, 16), stretch_bound, WORKS, ("power", 4), PAPER)
        self.assert_told((121, 96), stretch_bound, WORKS, ("power", 2), ((ALL, (0, 1, 2)),))

    def test_turns_that_stand_in_none(self):
        self.assert_told((8, 1), stretch_bound, (), self.TABLE, ())
        self.assert_told((8, 1), stretch_bound, (), self.TABLE, (((3, 9), ()),))
        self.assert_told(NOUGHT, stretch_bound, (), ("power", 2), ())
        # Two turns at 3/2, five at 1/2, seventeen that stand still.
        self.assert_told((47, 4), stretch_bound, WORKS, self.TABLE, PAPER)
        self.assert_told((47, 4), stretch_bound, WORKS, self.TABLE, PAPER + (((0, 1), ()),))

    def test_the_first_density_above_the_greatest_speed(self):
        low = ("table", ((NOUGHT, NOUGHT), ((1, 4), ONE)))
        self.assert_refused(NoSpeed((3, 2)), stretch_bound, WORKS, low, PAPER)
        self.assert_refused(NoSpeed((11, 48)), stretch_bound, WORKS, ("table", ((NOUGHT, NOUGHT), ((1, 5), ONE))),
                            ((ALL, (0, 1, 2)),))
        works = ((0, 0, (3, 1)), (1, 1, (2, 1)), (2, 2, ONE))
        paper = tuple([((number,), (number,)) for number in range(3)])
        self.assert_refused(NoSpeed((3, 1)), stretch_bound, works, low, paper)
        self.assert_told((3, 1), stretch_bound, works, ("table", ((NOUGHT, NOUGHT), ((6, 1), (3, 1)))), paper)

    def test_at_the_greatest_speed(self):
        table = ("table", ((NOUGHT, NOUGHT), ((3, 2), ONE)))
        self.assert_told((11, 3), stretch_bound, WORKS, table, PAPER)

    def test_many(self):
        source = Random(44)
        for step in range(80):
            works = works_from(source, source.randrange(1, 21))
            paper = layers(works)
            loads = [sum([fraction(works[number][2]) for number in numbers]) / len(turns) for turns, numbers in paper]
            rule = table_from(source, 6) if step % 2 else source.choice(RULES)
            top = fraction(rule[1][-1][0]) if step % 2 else loads[0]
            if loads[0] > top:
                self.assert_refused(NoSpeed(pair(loads[0])), stretch_bound, works, rule, paper)
            else:
                still = 24 - sum([len(turns) for turns, numbers in paper])
                told = sum([len(paper[n][0]) * fraction(power_at(rule, pair(load))) for n, load in enumerate(loads)])
                told += still * fraction(power_at(rule, NOUGHT))
                self.assert_told(pair(told), stretch_bound, works, rule, paper)

    def rules_up_to(self, works):
        """Rules whose greatest speed no plan of these works goes beyond."""
        return RULES + (high_table(pair(sum([fraction(work[2]) for work in works]))),)

    def test_the_bound_of_the_layers_is_the_power_of_the_least_plan(self):
        source = Random(45)
        for step in range(60):
            works = works_from(source, source.randrange(1, 21))
            for rule in self.rules_up_to(works):
                self.assertEqual(stretch_bound(works, rule, layers(works)),
                                 power_of(rule, speeds_of(least_plan((works, ())))))

    def test_no_plan_has_less_than_the_bound_of_any_paper_let_by(self):
        source = Random(46)
        others = 0
        for step in range(400):
            sheet, order = sheet_from(source, source.randrange(1, 8), 0)
            works = sheet[0]
            paper = source.choice([paper_from, merged_from])(source, works)
            if verdict_of(works, paper) is not True:
                continue
            others += paper != layers(works)
            plan = plan_from(source, sheet, order)
            for rule in self.rules_up_to(works):
                bound = fraction(stretch_bound(works, rule, paper))
                self.assertLessEqual(bound, fraction(power_of(rule, speeds_of(least_plan(sheet)))))
                self.assertLessEqual(bound, fraction(power_of(rule, speeds_of(plan))))
        self.assertGreater(others, 60)


if __name__ == "__main__":
    unittest.main()

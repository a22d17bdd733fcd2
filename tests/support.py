"""What several tests share: cases that see to kinds and to what was handed in, and things made at random."""

import copy
import unittest
from fractions import Fraction

from paceplan.errors import NoRoom
from paceplan.rules import right_rule, slopes_at, top_of
from paceplan.stretches import layers
from paceplan.works import drawn_in, right_sheet

NOUGHT = (0, 1)
ONE = (1, 1)

# Things of every kind that a tuple, a text or a number may be asked of.
STRAYS = (None, True, False, 0, 1, 2, -1, 24, 10 ** 199, "", "a", "power", "table", [], (), [()], ((),), (None,),
          (True,), [1, 1], (1, 1), (0, 1), ((1, 1),), [(1, 1)], ((), ()), ([], []), (((1, 1), (1, 1)),),
          ("shape", -1), (None, None), ((True, 1), (1, 1)))

# What stands in a ratio's place and is none.
NO_RATIOS = (1, 0, True, None, "1", "1/2", (), (1,), [1, 1], (1, 1, 1), (True, 1), (1, True), (2, 2), (1, 0),
             (1, -1), (0, 2), (4, 2), ("1", 1), ((1, 1), 1))


class Case(unittest.TestCase):
    """Answers are compared by how they are shown, so that True is no 1 and a list no tuple."""

    def assert_told(self, expected, function, *things):
        with self.subTest(function=function.__name__, things=things):
            kept = copy.deepcopy(things)
            self.assertEqual(repr(function(*things)), repr(expected))
            self.assertEqual(repr(things), repr(kept))

    def assert_refused(self, refusal, function, *things):
        with self.subTest(function=function.__name__, things=things):
            kept = copy.deepcopy(things)
            with self.assertRaises(type(refusal)) as caught:
                function(*things)
            self.assertIs(type(caught.exception), type(refusal))
            self.assertEqual(repr(vars(caught.exception)), repr(vars(refusal)))
            self.assertEqual(repr(things), repr(kept))


def fraction(one):
    return Fraction(one[0], one[1])


def pair(one):
    """The ratio of a Fraction."""
    return (one.numerator, one.denominator)


def ratio_from(source, most, bottoms):
    """A ratio above nought and not above most."""
    bottom = source.randrange(1, bottoms + 1)
    return pair(Fraction(source.randrange(1, most * bottom + 1), bottom))


def table_from(source, count):
    """A table of so many rows, some of whose slopes stay alike from row to row."""
    speed = Fraction(0)
    power = Fraction(source.randrange(3), source.randrange(1, 4))
    slope = Fraction(source.randrange(1, 4), source.randrange(1, 5))
    rows = [(pair(speed), pair(power))]
    while len(rows) < count:
        step = fraction(ratio_from(source, 2, 5))
        speed += step
        power += slope * step
        rows.append((pair(speed), pair(power)))
        slope += Fraction(source.randrange(3), source.randrange(1, 4))
    table = ("table", tuple(rows))
    assert right_rule(table) is True
    return table


def high_table(top):
    """A table of a few rows that reaches up to a speed."""
    speed = fraction(top)
    return ("table", ((NOUGHT, (1, 3)), (pair(speed / 3), pair(speed / 3 + 1)), (pair(speed), pair(speed * 5 + 1))))


def leaned_on(leans, work):
    """All that work leans on, found by walking from it: another way than the program's."""
    found = set()
    waiting = [work]
    while waiting:
        behind = waiting.pop()
        for base, leaner in leans:
            if leaner == behind and base not in found:
                found.add(base)
                waiting.append(base)
    return found


def plan_of(turns):
    """A plan of twenty-four turns with the pieces of some of them told."""
    return tuple([tuple(turns.get(turn, ())) for turn in range(24)])


def speeds_told(speeds):
    """Twenty-four speeds, nought but where told."""
    return tuple([speeds.get(turn, NOUGHT) for turn in range(24)])


def works_from(source, count, bottoms=4):
    """So many works, of windows of all lengths."""
    works = []
    while len(works) < count:
        first = source.randrange(24)
        last = min(23, first + source.choice([0, 1, 2, 4, 8, 23]))
        works.append((first, last, ratio_from(source, 5, bottoms)))
    return tuple(works)


def speeds_of_layers(works):
    """For each work the density of the layer in which it stands."""
    speeds = {}
    for turns, numbers in layers(works):
        for number in numbers:
            speeds[number] = pair(sum([fraction(works[other][2]) for other in numbers]) / len(turns))
    return tuple([speeds[number] for number in range(len(works))])


def price_from(source, rule):
    """A price that is right for a rule: any of its speeds, with the left slope, the right one, or one between."""
    top = top_of(rule)
    speeds = [NOUGHT, ratio_from(source, 5, 4)]
    if top is not None:
        speeds = [row[0] for row in rule[1]] + [pair(fraction(top) * source.randrange(9) / 8)]
    speed = source.choice(speeds)
    left, right = slopes_at(rule, speed)
    high = fraction(left) + source.randrange(3) if right is None else fraction(right)
    return (speed, pair(fraction(left) + (high - fraction(left)) * source.randrange(4) / 3))


def has_room(sheet):
    try:
        return len(drawn_in(sheet)) == len(sheet[0])
    except NoRoom:
        return False


def sheet_from(source, count, tries):
    """A sheet that has room, with as many of the leans tried as leave it some, and the hidden order they go along."""
    works = works_from(source, count)
    order = list(range(count))
    source.shuffle(order)
    leans = ()
    for step in range(tries if count > 1 else 0):
        low, high = sorted(source.sample(range(count), 2))
        lean = (order[low], order[high])
        if has_room((works, leans + (lean,))):
            leans += (lean,)
    assert right_sheet((works, leans)) is True
    return (works, leans), order


def split(source, amount, count):
    """An amount in so many parts, some of them perhaps nought."""
    shares = [source.randrange(4) for step in range(count)]
    if sum(shares) == 0:
        shares[0] = 1
    return [pair(fraction(amount) * share / sum(shares)) for share in shares]


def plan_from(source, sheet, order):
    """A right plan of a sheet: each work, in an order that keeps the leans, from where those it leans on end."""
    works = drawn_in(sheet)
    ends = {}
    turns = [[] for turn in range(24)]
    for number in order:
        first, last, amount = works[number]
        begin = max([first] + [ends[base] for base, leaner in sheet[1] if leaner == number])
        end = source.randrange(begin, last + 1)
        ends[number] = end
        for turn, part in zip(range(begin, end + 1), split(source, amount, end - begin + 1)):
            if part != NOUGHT:
                turns[turn].append((number, part))
    return tuple([tuple(pieces) for pieces in turns])


def works_and_plan(source, most):
    """One to so many works without leans, and a right plan of them."""
    count = source.randrange(1, most + 1)
    works = works_from(source, count)
    return works, plan_from(source, (works, ()), list(range(count)))

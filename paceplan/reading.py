"""Ratios, sheets, rules and plans read from their texts [15]; whether they are right is not asked."""

from paceplan.errors import NoText
from paceplan.ratios import NOUGHT, is_ratio
from paceplan.rules import POWER, TABLE

MOST_FIGURES = 40


def number_of(text):
    """The number from 0 on that a text writes, None where it writes none."""
    if not 1 <= len(text) <= MOST_FIGURES:
        return None
    if not all([sign in "0123456789" for sign in text]):
        return None
    if len(text) > 1 and text.startswith("0"):
        return None
    return int(text)


def ratio_of(text):
    """The ratio from nought on that a text writes, None where it writes none."""
    parts = text.partition("/")
    top = number_of(parts[0])
    bottom = 1
    if parts[1] == "/":
        bottom = number_of(parts[2])
        if bottom == 1:
            return None
    if is_ratio((top, bottom)):
        return (top, bottom)
    return None


def whole_or_none(parts):
    """The parts as a tuple, None where one of them could not be read."""
    if None in parts:
        return None
    return tuple(parts)


def work_of(words):
    """The work that words write, None where they write none."""
    if len(words) != 4 or words[0] != "work":
        return None
    return whole_or_none([number_of(words[1]), number_of(words[2]), ratio_of(words[3])])


def lean_of(words):
    """The lean that words write, None where they write none."""
    if len(words) != 3 or words[0] != "lean":
        return None
    return whole_or_none([number_of(words[1]), number_of(words[2])])


def piece_of(word):
    """The piece WORK:AMOUNT that a word writes, None where it writes none."""
    parts = word.partition(":")
    return whole_or_none([number_of(parts[0]), ratio_of(parts[2])])


def row_of(word):
    """The row SPEED:POWER that a word writes, None where it writes none."""
    parts = word.partition(":")
    return whole_or_none([ratio_of(parts[0]), ratio_of(parts[2])])


def pieces_of(words):
    """The pieces of a turn that words write, None where they write none."""
    if words[0] != "turn":
        return None
    return whole_or_none([piece_of(word) for word in words[1:]])


def rule_of(words):
    """The rule that words write, None where they write none."""
    told = None
    if words[0] == POWER and len(words) == 2:
        told = number_of(words[1])
    if words[0] == TABLE:
        told = whole_or_none([row_of(word) for word in words[1:]])
    return whole_or_none([words[0], told])


def read_ratio(text):
    """The ratio that a text writes, or NoText."""
    is_below = text.startswith("-")
    one = ratio_of(text[1:] if is_below else text)
    if one is None or (is_below and one == NOUGHT):
        raise NoText(0)
    return (-one[0], one[1]) if is_below else one


def read_sheet(lines):
    """The sheet that lines write, or NoText."""
    works = []
    leans = []
    for at, line in enumerate(lines):
        words = line.split(" ")
        work = work_of(words)
        lean = lean_of(words)
        if work is not None and len(leans) == 0:
            works.append(work)
        elif lean is not None:
            leans.append(lean)
        else:
            raise NoText(at)
    return (tuple(works), tuple(leans))


def read_plan(lines):
    """The plan that lines write, or NoText."""
    plan = []
    for at, line in enumerate(lines):
        pieces = pieces_of(line.split(" "))
        if pieces is None:
            raise NoText(at)
        plan.append(pieces)
    return tuple(plan)


def read_rule(lines):
    """The rule that one line writes, or NoText."""
    if len(lines) == 0:
        raise NoText(0)
    rule = rule_of(lines[0].split(" "))
    if rule is None:
        raise NoText(0)
    if len(lines) > 1:
        raise NoText(1)
    return rule

"""Ratios, sheets, rules and plans as texts [14]."""

from paceplan.rules import POWER

FIGURES = 64


def number_text(number):
    """A number by figures, in parts, as Python at once writes none of more than some thousand figures."""
    if number < 0:
        return "-" + number_text(-number)
    part = 10 ** 64
    texts = []
    rest = number
    while rest >= part:
        texts.append(str(rest % part).zfill(FIGURES))
        rest = rest // part
    texts.append(str(rest))
    return "".join(reversed(texts))


def ratio_text(one):
    """A ratio: its top, and, where the bottom is not 1, a / and the bottom."""
    if one[1] == 1:
        return number_text(one[0])
    return number_text(one[0]) + "/" + number_text(one[1])


def work_text(work):
    """A work's line."""
    return " ".join(["work", number_text(work[0]), number_text(work[1]), ratio_text(work[2])])


def lean_text(lean):
    """A lean's line."""
    return " ".join(["lean", number_text(lean[0]), number_text(lean[1])])


def sheet_lines(sheet):
    """The lines of a sheet's works, then those of its leans."""
    return [work_text(work) for work in sheet[0]] + [lean_text(lean) for lean in sheet[1]]


def piece_text(piece):
    """A piece as it stands in a turn's line."""
    return number_text(piece[0]) + ":" + ratio_text(piece[1])


def plan_lines(plan):
    """A line for each turn of a plan."""
    return [" ".join(["turn"] + [piece_text(piece) for piece in pieces]) for pieces in plan]


def row_text(row):
    """A row as it stands in a table's line."""
    return ratio_text(row[0]) + ":" + ratio_text(row[1])


def rule_text(rule):
    """A rule's line."""
    if rule[0] == POWER:
        return " ".join([POWER, number_text(rule[1])])
    return " ".join([rule[0]] + [row_text(row) for row in rule[1]])

"""Plans of a sheet [12], their speeds, and the power of speeds [13]."""

from paceplan.errors import NoPlan
from paceplan.ratios import is_above_nought, total
from paceplan.rules import power_at
from paceplan.things import is_number_of, is_tuple_of
from paceplan.works import TURNS, in_window


def is_piece(thing, count):
    """Whether any thing is a pair of the number of one of so many works and a ratio above nought."""
    return is_tuple_of(thing, 2) and is_number_of(thing[0], count) and is_above_nought(thing[1])


def are_pieces(thing, count):
    """Whether any thing is a tuple of pieces of so many works."""
    return isinstance(thing, tuple) and all([is_piece(piece, count) for piece in thing])


def is_plan_shaped(thing, count):
    """Whether any thing is a tuple of twenty-four tuples of pieces of so many works."""
    return is_tuple_of(thing, TURNS) and all([are_pieces(pieces, count) for pieces in thing])


def are_in_place(works, turn, pieces):
    """Whether in the pieces of a turn no work stands twice, and none out of its window."""
    numbers = [piece[0] for piece in pieces]
    if len(set(numbers)) < len(numbers):
        return False
    return all([in_window(works[number], turn) for number in numbers])


def pieces_in_order(plan):
    """All pieces of a plan, in the order in which they are done."""
    row = []
    for pieces in plan:
        row.extend(pieces)
    return row


def is_lean_kept(row, lean):
    """Whether in a row of pieces each one of the lean's first work, which has some, is ahead of its second's."""
    ahead = [place for place, piece in enumerate(row) if piece[0] == lean[0]]
    behind = [place for place, piece in enumerate(row) if piece[0] == lean[1]]
    return ahead[-1] < behind[0]


def right_plan(sheet, thing):
    """True where any thing is a right plan of a sheet, else NoPlan."""
    works = sheet[0]
    if not is_plan_shaped(thing, len(works)):
        raise NoPlan("shape", -1)
    for turn, pieces in enumerate(thing):
        if not are_in_place(works, turn, pieces):
            raise NoPlan("piece", turn)
    row = pieces_in_order(thing)
    for number, work in enumerate(works):
        if total([piece[1] for piece in row if piece[0] == number]) != work[2]:
            raise NoPlan("amount", number)
    for number, lean in enumerate(sheet[1]):
        if not is_lean_kept(row, lean):
            raise NoPlan("lean", number)
    return True


def speeds_of(plan):
    """The speeds of a plan: for each turn the sum of its amounts."""
    return tuple([total([piece[1] for piece in pieces]) for pieces in plan])


def power_of(rule, speeds):
    """The sum of a rule's power at each speed; or NoSpeed, of the first one above a table's greatest."""
    return total([power_at(rule, speed) for speed in speeds])

"""Works, leans and sheets [6], and windows that are drawn in [7]."""

from paceplan.errors import NoRoom, NoSheet
from paceplan.ratios import is_above_nought
from paceplan.things import is_number_of, is_tuple_of

TURNS = 24
MOST_WORKS = 20
MOST_LEANS = 40


def is_sheet_shaped(thing):
    """Whether thing is a tuple of two tuples, neither of which is too long."""
    if not is_tuple_of(thing, 2):
        return False
    works = thing[0]
    leans = thing[1]
    if not isinstance(works, tuple) or not isinstance(leans, tuple):
        return False
    return len(works) <= MOST_WORKS and len(leans) <= MOST_LEANS


def is_work(thing):
    """Whether any thing is a work (first, last, amount)."""
    if not is_tuple_of(thing, 3):
        return False
    first = thing[0]
    last = thing[1]
    if not is_number_of(first, TURNS) or not is_number_of(last, TURNS):
        return False
    return first <= last and is_above_nought(thing[2])


def in_window(work, turn):
    """Whether a turn is in the window of a work."""
    return work[0] <= turn <= work[1]


def is_lean(thing, count):
    """Whether any thing is a pair of unlike numbers of so many works."""
    if not is_tuple_of(thing, 2):
        return False
    ahead = thing[0]
    behind = thing[1]
    return is_number_of(ahead, count) and is_number_of(behind, count) and ahead != behind


def no_leanings(count):
    """For each of so many works a row that tells of each work whether it leans on that one: none yet."""
    return [[False] * count for work in range(count)]


def add_lean(leanings, lean):
    """Enter a lean, and all that comes of it by way of others, in rows which know all leans ahead of it."""
    ahead = lean[0]
    behind = lean[1]
    numbers = list(range(len(leanings)))
    bases = [work for work in numbers if work == ahead or leanings[ahead][work]]
    leaners = [work for work in numbers if work == behind or leanings[work][behind]]
    for leaner in leaners:
        for base in bases:
            leanings[leaner][base] = True


def all_leanings(count, leans):
    """For each work a row that tells of each work whether it leans on that one, by way of others too."""
    leanings = no_leanings(count)
    for lean in leans:
        add_lean(leanings, lean)
    return leanings


def first_ring(count, leans):
    """The number of the first lean by which a work leans on itself, None where there is none."""
    leanings = no_leanings(count)
    for number, lean in enumerate(leans):
        add_lean(leanings, lean)
        if leanings[lean[0]][lean[0]]:
            return number
    return None


def right_sheet(thing):
    """True where any thing is a sheet, else NoSheet."""
    if not is_sheet_shaped(thing):
        raise NoSheet("shape", -1)
    works = thing[0]
    leans = thing[1]
    for number, work in enumerate(works):
        if not is_work(work):
            raise NoSheet("work", number)
    for number, lean in enumerate(leans):
        if not is_lean(lean, len(works)):
            raise NoSheet("lean", number)
    ring = first_ring(len(works), leans)
    if ring is not None:
        raise NoSheet("ring", ring)
    return True


def drawn_in(sheet):
    """The works of a sheet with their windows drawn in, or NoRoom."""
    works = sheet[0]
    leanings = all_leanings(len(works), sheet[1])
    drawn = []
    for number, work in enumerate(works):
        firsts = [other[0] for base, other in enumerate(works) if leanings[number][base]]
        lasts = [other[1] for leaner, other in enumerate(works) if leanings[leaner][number]]
        first = max([work[0]] + firsts)
        last = min([work[1]] + lasts)
        if first > last:
            raise NoRoom(number)
        drawn.append((first, last, work[2]))
    return tuple(drawn)

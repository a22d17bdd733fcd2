"""Works dealt by speeds [19], and the least plan of a sheet [20]."""

from paceplan.errors import NoRoom
from paceplan.ratios import NOUGHT, lesser, minus
from paceplan.stretches import layer_speeds
from paceplan.works import TURNS, all_leanings, drawn_in, in_window


def first_to_come(works, leanings, waiting):
    """Of the works that wait and have the earliest last turn the least that leans on none of them."""
    earliest = min([works[number][1] for number in waiting])
    like = [number for number in waiting if works[number][1] == earliest]
    free = [number for number in like if not any([leanings[number][base] for base in like])]
    return free[0]


def order_of(works, leans):
    """The numbers of works in the order in which they are dealt."""
    leanings = all_leanings(len(works), leans)
    waiting = list(range(len(works)))
    order = []
    while len(waiting) > 0:
        number = first_to_come(works, leanings, waiting)
        waiting.remove(number)
        order.append(number)
    return order


def deal_turn(works, order, left, turn, speed):
    """The pieces of a turn; what they have is taken out of what is left of each work."""
    pieces = []
    room = speed
    for number in order:
        if not in_window(works[number], turn):
            continue
        amount = lesser(left[number], room)
        if amount != NOUGHT:
            pieces.append((number, amount))
            left[number] = minus(left[number], amount)
            room = minus(room, amount)
    return tuple(pieces)


def dealt(works, leans, speeds):
    """The plan of works dealt by speeds and leans, or NoRoom."""
    order = order_of(works, leans)
    left = [work[2] for work in works]
    plan = []
    for turn in range(TURNS):
        plan.append(deal_turn(works, order, left, turn, speeds[turn]))
    for number, amount in enumerate(left):
        if amount != NOUGHT:
            raise NoRoom(number)
    return tuple(plan)


def least_plan(sheet):
    """A right plan of a sheet than which none has less power, by whatever rule; or NoRoom."""
    works = drawn_in(sheet)
    return dealt(works, sheet[1], layer_speeds(works))

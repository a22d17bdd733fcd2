"""Bills, which hold a plan's speeds against those of another one [35], and the keeper's bill [36]."""

from paceplan.errors import NoBill
from paceplan.keeper import kept_plan, waiting_works
from paceplan.plans import pieces_in_order
from paceplan.ratios import NOUGHT, is_less, is_ratio, minus, plus, raised, times, total
from paceplan.stretches import layer_speeds
from paceplan.things import is_tuple_of
from paceplan.works import TURNS


def lets_bill(k, one, other, thing):
    """True where any thing is a bill for k and the speeds of the one and the other, else NoBill."""
    count = len(one)
    if not is_tuple_of(thing, count + 1) or not all([is_ratio(part) for part in thing]):
        raise NoBill("shape", -1)
    if is_less(NOUGHT, thing[0]):
        raise NoBill("begin", 0)
    for turn in range(count):
        spent = plus(raised(one[turn], k), minus(thing[turn + 1], thing[turn]))
        if is_less(raised(times((k, 1), other[turn]), k), spent):
            raise NoBill("turn", turn)
    if is_less(thing[count], NOUGHT):
        raise NoBill("end", count)
    return True


def left_ahead(works, plan, turn):
    """Of each work that came ahead of a turn what a plan has left of it then; nought of the others."""
    amounts = [work[2] if work[0] < turn else NOUGHT for work in works]
    for piece in pieces_in_order(plan[:turn]):
        amounts[piece[0]] = minus(amounts[piece[0]], piece[1])
    return amounts


def bill_ahead(works, k, kept, plan, turn):
    """The bill of the keeper's plan against another one ahead of what comes at a turn."""
    own = left_ahead(works, kept, turn)
    others = left_ahead(works, plan, turn)
    # Past turns are in no window any more, so they have the speed nought, as they should.
    speeds = layer_speeds(waiting_works(works, own, turn)[0])
    parts = []
    for number, work in enumerate(works):
        ahead = minus(own[number], times((k, 1), others[number]))
        parts.append(times(raised(speeds[work[1]], k - 1), ahead))
    return times((k, 1), total(parts))


def bill(works, k, plan):
    """A bill, for k, of the speeds of the keeper's plan of works and of another right plan of them."""
    kept = kept_plan(works)
    return tuple([bill_ahead(works, k, kept, plan, turn) for turn in range(TURNS + 1)])

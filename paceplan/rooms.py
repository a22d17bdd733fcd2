"""Turns that are too few for works [28], and plans of one hand below a greatest speed [29]."""

from paceplan.dealing import least_plan
from paceplan.errors import NoMuch
from paceplan.ratios import NOUGHT, is_less, minus, times, total
from paceplan.stretches import layer_density, layers
from paceplan.things import is_rising
from paceplan.works import TURNS

FITS = "fits"
MUCH = "much"


def bound_amount(work, top, turns):
    """What of a work has to be done in turns, as it can't be done at the greatest speed in the rest of its window."""
    others = [turn for turn in range(work[0], work[1] + 1) if turn not in turns]
    rest = minus(work[2], times(top, (len(others), 1)))
    if is_less(rest, NOUGHT):
        return NOUGHT
    return rest


def lets_much(works, hands, top, thing):
    """True where any thing is turns that are too few for works, hands and a greatest speed, else NoMuch."""
    if not is_rising(thing, TURNS):
        raise NoMuch("shape")
    room = times(top, (hands * len(thing), 1))
    if not is_less(room, total([bound_amount(work, top, thing) for work in works])):
        raise NoMuch("room")
    return True


def fits(works, top):
    """(fits, a right plan of one hand none of whose speeds is above top), or (much, turns that are too few)."""
    told = layers(works)
    # The first layer is the tightest: where it can do with the greatest speed, all can.
    if len(told) > 0 and is_less(top, layer_density(works, told[0])):
        return (MUCH, told[0][0])
    return (FITS, least_plan((works, ())))

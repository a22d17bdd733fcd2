"""The checker of papers of stretches [21], and the bound of such a paper [22]."""

from paceplan.errors import NoStretch
from paceplan.ratios import NOUGHT, is_less, times, total
from paceplan.rules import power_at
from paceplan.stretches import layer_density
from paceplan.things import is_rising, is_tuple_of
from paceplan.works import TURNS


def is_layer_shaped(thing, count):
    """Whether thing is a pair of one or more rising turns and rising numbers of so many works."""
    if not is_tuple_of(thing, 2):
        return False
    return is_rising(thing[0], TURNS) and len(thing[0]) > 0 and is_rising(thing[1], count)


def is_paper_shaped(thing, count):
    """Whether thing is a tuple of such pairs."""
    return isinstance(thing, tuple) and all([is_layer_shaped(layer, count) for layer in thing])


def first_again(rows):
    """The number of the first row with something that stands in a row ahead of it, None where there is none."""
    seen = {}
    for number, row in enumerate(rows):
        if any([part in seen for part in row]):
            return number
        for part in row:
            seen[part] = True
    return None


def ask_once(works, paper):
    """Refuse with NoStretch turns and works that stand in two pairs, and works that stand in none."""
    again = first_again([layer[0] for layer in paper])
    if again is not None:
        raise NoStretch("turn", again)
    again = first_again([layer[1] for layer in paper])
    if again is not None:
        raise NoStretch("work", again)
    if sum([len(layer[1]) for layer in paper]) < len(works):
        raise NoStretch("lacks", -1)


def ask_windows(works, paper):
    """Refuse with NoStretch the first pair with a work whose window has a turn of no pair up to it."""
    seen = {}
    for place, layer in enumerate(paper):
        for turn in layer[0]:
            seen[turn] = True
        for number in layer[1]:
            work = works[number]
            if not all([turn in seen for turn in range(work[0], work[1] + 1)]):
                raise NoStretch("window", place)


def ask_densities(works, paper):
    """Refuse with NoStretch the first pair whose density is more than that of the one ahead."""
    densities = [layer_density(works, layer) for layer in paper]
    for number in range(1, len(densities)):
        if is_less(densities[number - 1], densities[number]):
            raise NoStretch("falls", number)


def lets_stretches(works, thing):
    """True where any thing is a right paper of stretches for works, else NoStretch."""
    if not is_paper_shaped(thing, len(works)):
        raise NoStretch("shape", -1)
    ask_once(works, thing)
    ask_windows(works, thing)
    ask_densities(works, thing)
    return True


def stretch_bound(works, rule, paper):
    """The amount, by a rule, below which no plan of works is, or NoSpeed."""
    still = TURNS
    powers = []
    for layer in paper:
        still -= len(layer[0])
        powers.append(times((len(layer[0]), 1), power_at(rule, layer_density(works, layer))))
    powers.append(times((still, 1), power_at(rule, NOUGHT)))
    return total(powers)

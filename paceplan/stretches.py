"""Weights, densities and stretches of turns [16, 17], the layers and speeds of works [18]."""

from paceplan.ratios import NOUGHT, over, total, whole_parts
from paceplan.works import TURNS, in_window


def lies_in(work, turns):
    """Whether the whole window of a work lies in turns."""
    return all([turn in turns for turn in range(work[0], work[1] + 1)])


def weight(works, turns):
    """The sum of the amounts of all works whose whole windows lie in turns."""
    return total([work[2] for work in works if lies_in(work, turns)])


def density(works, turns):
    """The weight of turns by how many they are, one or more."""
    return over(weight(works, turns), (len(turns), 1))


def kept_windows(works, left):
    """For each work the first and last place, among the turns left, of what is left of its window; None of a void."""
    windows = []
    for work in works:
        places = [place for place, turn in enumerate(left) if in_window(work, turn)]
        windows.append((places[0], places[-1]) if len(places) > 0 else None)
    return windows


def held(windows, begin, end):
    """The numbers of the windows that lie in the places from begin to end, and are not void."""
    return [number for number, window in enumerate(windows)
            if window is not None and begin <= window[0] and window[1] <= end]


def tightest_places(windows, amounts, count):
    """The first and last place of the tightest stretch of so many turns left."""
    best = (0, 0)
    best_load = -1
    best_length = 1
    for begin in range(count):
        for end in range(count - 1, begin - 1, -1):
            load = sum([amounts[number] for number in held(windows, begin, end)])
            length = end - begin + 1
            # The first and longest come first, so only a greater density takes their place.
            if load * best_length > best_load * length:
                best = (begin, end)
                best_load = load
                best_length = length
    return best


def tightest(works, left):
    """The tightest stretch of the turns left, and the numbers of the works whose windows, so, lie in it."""
    windows = kept_windows(works, left)
    places = tightest_places(windows, whole_parts([work[2] for work in works]), len(left))
    return (left[places[0]:places[1] + 1], tuple(held(windows, places[0], places[1])))


def layers(works):
    """The tightest stretches with their works, one behind the other, till no work is left."""
    told = []
    left = tuple(range(TURNS))
    waiting = len(works)
    while waiting > 0:
        layer = tightest(works, left)
        told.append(layer)
        left = tuple([turn for turn in left if turn not in layer[0]])
        waiting -= len(layer[1])
    return tuple(told)


def layer_density(works, layer):
    """The amounts of a layer's works by how many turns it has."""
    return over(total([works[number][2] for number in layer[1]]), (len(layer[0]), 1))


def layer_speeds(works):
    """For each turn the density of the layer in which it stands, nought where in none."""
    speeds = [NOUGHT] * TURNS
    for layer in layers(works):
        speed = layer_density(works, layer)
        for turn in layer[0]:
            speeds[turn] = speed
    return tuple(speeds)

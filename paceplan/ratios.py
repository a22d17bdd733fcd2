"""Ratios [5]: tuples (top, bottom) of whole numbers in lowest terms, the bottom from 1 on."""

from paceplan.errors import NoRatio
from paceplan.things import is_tuple_of, is_whole

NOUGHT = (0, 1)
ONE = (1, 1)


def greatest_divisor(one, other):
    """The greatest whole number that divides both; of 0 and a number that number, without its sign."""
    high = abs(one)
    low = abs(other)
    while low != 0:
        rest = high % low
        high = low
        low = rest
    return high


def is_ratio(thing):
    """Whether any thing is a ratio."""
    if not is_tuple_of(thing, 2):
        return False
    top = thing[0]
    bottom = thing[1]
    if not is_whole(top) or not is_whole(bottom) or bottom < 1:
        return False
    return greatest_divisor(top, bottom) == 1


def is_ratio_pair(thing):
    """Whether any thing is a pair of ratios."""
    return is_tuple_of(thing, 2) and is_ratio(thing[0]) and is_ratio(thing[1])


def is_above_nought(thing):
    """Whether any thing is a ratio above nought."""
    return is_ratio(thing) and thing[0] > 0


def ratio(top, bottom):
    """The ratio of two whole numbers, or NoRatio where the second is 0."""
    if bottom == 0:
        raise NoRatio("there is no ratio with a bottom of 0")
    shared = greatest_divisor(top, bottom)
    if bottom < 0:
        shared = -shared
    return (top // shared, bottom // shared)


def plus(one, other):
    """The sum of two ratios."""
    # Only what both bottoms share can be left in common with the top, so no divisor of great products is sought.
    shared = greatest_divisor(one[1], other[1])
    top = one[0] * (other[1] // shared) + other[0] * (one[1] // shared)
    rest = greatest_divisor(top, shared)
    return (top // rest, (one[1] // shared) * (other[1] // rest))


def minus(one, other):
    """One ratio less the other."""
    return plus(one, (-other[0], other[1]))


def times(one, other):
    """The product of two ratios."""
    # A top has nothing in common with its own bottom, so only the tops and bottoms across are looked at.
    left = greatest_divisor(one[0], other[1])
    right = greatest_divisor(other[0], one[1])
    return ((one[0] // left) * (other[0] // right), (one[1] // right) * (other[1] // left))


def over(one, other):
    """One ratio by the other, or NoRatio where the other is nought."""
    if other[0] == 0:
        raise NoRatio("there is no quotient by nought")
    return times(one, ratio(other[1], other[0]))


def raised(one, power):
    """One ratio to a whole power from 0 on."""
    # What has nothing in common has nothing in common when raised.
    top = 1
    bottom = 1
    for step in range(power):
        top = top * one[0]
        bottom = bottom * one[1]
    return (top, bottom)


def is_less(one, other):
    """Whether one ratio is less than the other."""
    return one[0] * other[1] < other[0] * one[1]


def lesser(one, other):
    """The lesser one of two ratios."""
    if is_less(other, one):
        return other
    return one


def total(some):
    """The sum of a list or tuple of ratios; of none nought."""
    # Those of like bottoms are summed by their tops alone, so that few divisors are sought.
    tops = {}
    for one in some:
        tops[one[1]] = tops.get(one[1], 0) + one[0]
    so_far = NOUGHT
    for bottom, top in tops.items():
        so_far = plus(so_far, ratio(top, bottom))
    return so_far


def greatest(some):
    """The greatest of a list or tuple of one or more ratios."""
    best = some[0]
    for one in some:
        if is_less(best, one):
            best = one
    return best


def whole_parts(some):
    """The ratios, all times one number that makes them whole, so that they and their sums are soon compared."""
    bottom = 1
    for one in some:
        bottom = bottom * (one[1] // greatest_divisor(bottom, one[1]))
    return [one[0] * (bottom // one[1]) for one in some]


def falling_order(some):
    """The places of ratios in a list or tuple, that of the greatest one first."""
    parts = whole_parts(some)
    return sorted(range(len(parts)), key=lambda place: -parts[place])

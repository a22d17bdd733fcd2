"""Prices of works [23], their bound [24], and the power of several hands [25]."""

from paceplan.errors import NoPrice
from paceplan.plans import power_of
from paceplan.ratios import NOUGHT, falling_order, is_less, is_ratio_pair, minus, over, times, total
from paceplan.rules import ask_greatest, bears, is_beyond, plain_slope, power_at
from paceplan.things import is_tuple_of
from paceplan.works import TURNS, in_window


def is_price(rule, price):
    """Whether a pair of ratios is a speed that the rule has, and a slope that bears it there."""
    speed = price[0]
    if is_less(speed, NOUGHT) or is_beyond(rule, speed):
        return False
    return bears(rule, speed, price[1])


def right_prices(works, rule, thing):
    """True where any thing is prices of works for a rule, else NoPrice."""
    if not is_tuple_of(thing, len(works)) or not all([is_ratio_pair(price) for price in thing]):
        raise NoPrice(-1)
    for number, price in enumerate(thing):
        if not is_price(rule, price):
            raise NoPrice(number)
    return True


def plain_prices(rule, speeds):
    """The prices of works of these speeds, with the plain slopes; or NoSpeed, of the greatest speed."""
    ask_greatest(rule, speeds)
    return tuple([(speed, plain_slope(rule, speed)) for speed in speeds])


def turns_at_hand(works, hands, order):
    """For each work in how many turns it is among so many of its window's works, those that come first in an order."""
    counts = [0] * len(works)
    for turn in range(TURNS):
        there = [number for number in order if in_window(works[number], turn)]
        for number in there[:hands]:
            counts[number] += 1
    return counts


def price_bound(works, rule, hands, prices):
    """The amount, by a rule and so many hands, below which no plan of works is."""
    counts = turns_at_hand(works, hands, falling_order([price[1] for price in prices]))
    parts = [times((TURNS * hands - sum(counts), 1), power_at(rule, NOUGHT))]
    for work, price, count in zip(works, prices, counts):
        saved = minus(power_at(rule, price[0]), times(price[1], price[0]))
        parts.append(times(price[1], work[2]))
        parts.append(times((count, 1), saved))
    return total(parts)


def hand_speeds(hands, amounts):
    """The speeds, the greatest first, at which so many hands do amounts in a turn by the least power."""
    alone = []
    rest = total(amounts)
    for place in falling_order(amounts):
        amount = amounts[place]
        # Of the last hand the mean is all that is left, so it never goes to an amount alone.
        if not is_less(over(rest, (hands - len(alone), 1)), amount):
            break
        alone.append(amount)
        rest = minus(rest, amount)
    sharing = hands - len(alone)
    return alone + [over(rest, (sharing, 1))] * sharing


def turn_power(rule, hands, amounts):
    """The power of so many hands that do amounts in a turn; or NoSpeed, of the greatest speed of a hand."""
    return power_of(rule, hand_speeds(hands, amounts))


def hands_power(rule, hands, plan):
    """The power of a plan by so many hands; or NoSpeed, of the first turn that has too great a speed."""
    return total([turn_power(rule, hands, tuple([piece[1] for piece in pieces])) for pieces in plan])

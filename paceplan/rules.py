"""Rules of power [8], and their powers and slopes at a speed [9]."""

from paceplan.errors import NoRule, NoSpeed
from paceplan.ratios import NOUGHT, greatest, is_less, is_ratio_pair, minus, over, plus, raised, times
from paceplan.things import is_tuple_of, is_whole

POWER = "power"
TABLE = "table"
LEAST_POWER = 2
MOST_POWER = 4
LEAST_ROWS = 2
MOST_ROWS = 12


def slope_between(low, high):
    """The slope from one row to another, power by speed."""
    return over(minus(high[1], low[1]), minus(high[0], low[0]))


def is_row_behind(rows, number):
    """Whether a row, a pair of ratios, is as told against the rows ahead, which are so themselves."""
    row = rows[number]
    if number == 0:
        return row[0] == NOUGHT and not is_less(row[1], NOUGHT)
    ahead = rows[number - 1]
    if not is_less(ahead[0], row[0]) or not is_less(ahead[1], row[1]):
        return False
    if number == 1:
        return True
    return not is_less(slope_between(ahead, row), slope_between(rows[number - 2], ahead))


def is_rule_shaped(thing):
    """Whether thing is one of the two words, and a power from 2 to 4 or a tuple of 2 to 12 things."""
    if not is_tuple_of(thing, 2):
        return False
    if thing[0] == POWER:
        return is_whole(thing[1]) and LEAST_POWER <= thing[1] <= MOST_POWER
    if thing[0] == TABLE:
        return isinstance(thing[1], tuple) and LEAST_ROWS <= len(thing[1]) <= MOST_ROWS
    return False


def right_rule(thing):
    """True where any thing is a rule, else NoRule."""
    if not is_rule_shaped(thing):
        raise NoRule(-1)
    if thing[0] == TABLE:
        rows = thing[1]
        for number, row in enumerate(rows):
            if not is_ratio_pair(row) or not is_row_behind(rows, number):
                raise NoRule(number)
    return True


def top_of(rule):
    """The greatest speed of a table; None of a power, which has none."""
    if rule[0] == POWER:
        return None
    return rule[1][-1][0]


def is_beyond(rule, speed):
    """Whether a speed is above a table's greatest one."""
    top = top_of(rule)
    return top is not None and is_less(top, speed)


def ask_greatest(rule, speeds):
    """Refuse with NoSpeed the greatest of speeds, where it is above a table's greatest one."""
    if len(speeds) > 0 and is_beyond(rule, greatest(speeds)):
        raise NoSpeed(greatest(speeds))


def place_of(rows, speed):
    """The number of the first row whose speed is not below a speed, which is not above the greatest one."""
    place = 0
    while is_less(rows[place][0], speed):
        place += 1
    return place


def power_at(rule, speed):
    """The power of a rule at a speed, or NoSpeed where that is above a table's greatest one."""
    if rule[0] == POWER:
        return raised(speed, rule[1])
    if is_beyond(rule, speed):
        raise NoSpeed(speed)
    rows = rule[1]
    place = place_of(rows, speed)
    high = rows[place]
    if high[0] == speed:
        return high[1]
    low = rows[place - 1]
    return plus(low[1], times(slope_between(low, high), minus(speed, low[0])))


def table_slopes(rows, speed):
    """The slopes (left, right) of a table's rows at a speed."""
    place = place_of(rows, speed)
    left = NOUGHT
    if place > 0:
        left = slope_between(rows[place - 1], rows[place])
    if is_less(speed, rows[place][0]):
        return (left, left)
    if place == len(rows) - 1:
        return (left, None)
    return (left, slope_between(rows[place], rows[place + 1]))


def slopes_at(rule, speed):
    """The slopes (left, right) of a rule at a speed; right is None at a table's greatest one."""
    if rule[0] == TABLE:
        return table_slopes(rule[1], speed)
    slope = times((rule[1], 1), raised(speed, rule[1] - 1))
    return (slope, slope)


def plain_slope(rule, speed):
    """The right slope at a speed, or the left one where there is no right one."""
    slopes = slopes_at(rule, speed)
    if slopes[1] is None:
        return slopes[0]
    return slopes[1]


def bears(rule, speed, slope):
    """Whether a slope bears a rule at a speed: it is not less than left, and not more than right."""
    slopes = slopes_at(rule, speed)
    if is_less(slope, slopes[0]):
        return False
    return slopes[1] is None or not is_less(slopes[1], slope)

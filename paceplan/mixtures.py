"""Speeds of a few: the table of them [10], and mixtures of a table's rows [11]."""

from paceplan.errors import NoMix
from paceplan.ratios import NOUGHT, ONE, is_less, is_ratio_pair, minus, over, times, total
from paceplan.rules import TABLE, place_of, power_at


def few_table(rule, speeds):
    """The table of nought and a few speeds with the rule's power there, or NoSpeed."""
    rows = [(NOUGHT, power_at(rule, NOUGHT))]
    for speed in speeds:
        rows.append((speed, power_at(rule, speed)))
    return (TABLE, tuple(rows))


def mixture(table, speed):
    """The mixture of one row, or of two neighbouring ones, for a table and a speed."""
    rows = table[1]
    place = place_of(rows, speed)
    high = rows[place][0]
    if high == speed:
        return ((high, ONE),)
    low = rows[place - 1][0]
    part = over(minus(speed, low), minus(high, low))
    return ((low, minus(ONE, part)), (high, part))


def row_numbers(table, speeds):
    """For each speed the number of the row that has it, None where none has."""
    rows = [row[0] for row in table[1]]
    return [rows.index(speed) if speed in rows else None for speed in speeds]


def mixed_power(table, mix):
    """The powers of the rows times their parts, summed, of any mixture of a table's rows."""
    numbers = row_numbers(table, [pair[0] for pair in mix])
    return total([times(table[1][number][1], pair[1]) for number, pair in zip(numbers, mix)])


def is_mix_shaped(thing):
    """Whether thing is a tuple of one or more pairs of ratios."""
    return isinstance(thing, tuple) and len(thing) > 0 and all([is_ratio_pair(pair) for pair in thing])


def ask_speeds(table, mix):
    """Refuse with NoMix the first speed that is no row's, or not above the one ahead."""
    numbers = row_numbers(table, [pair[0] for pair in mix])
    for place, number in enumerate(numbers):
        if number is None or (place > 0 and number <= numbers[place - 1]):
            raise NoMix("speed", place)


def ask_parts(mix):
    """Refuse with NoMix the first part not above nought, and parts that don't come to 1."""
    for place, pair in enumerate(mix):
        if not is_less(NOUGHT, pair[1]):
            raise NoMix("part", place)
    if total([pair[1] for pair in mix]) != ONE:
        raise NoMix("whole", -1)


def are_near(table, mix):
    """Whether these are one row, or two neighbouring ones, of a table."""
    numbers = row_numbers(table, [pair[0] for pair in mix])
    return len(numbers) == 1 or (len(numbers) == 2 and numbers[1] - numbers[0] == 1)


def mix_asked(table, speed, thing):
    """True where any thing is the mixture for a table and a speed, else NoMix."""
    if not is_mix_shaped(thing):
        raise NoMix("shape", -1)
    ask_speeds(table, thing)
    ask_parts(thing)
    if total([times(pair[0], pair[1]) for pair in thing]) != speed:
        raise NoMix("mean", -1)
    if not are_near(table, thing):
        raise NoMix("far", -1)
    return True

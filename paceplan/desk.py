"""A desk [37]: it is told rows, and answers each with a text."""

from paceplan.dealing import least_plan
from paceplan.errors import NoRow
from paceplan.hands import hands_least
from paceplan.keeper import Keeper, kept_plan
from paceplan.leasts import few_told, least_told
from paceplan.mixtures import few_table
from paceplan.plans import power_of, speeds_of
from paceplan.prices import hands_power
from paceplan.ratios import is_above_nought, is_less, over
from paceplan.reading import lean_of, number_of, ratio_of, rule_of, whole_or_none, work_of
from paceplan.rooms import FITS, fits
from paceplan.rules import POWER, TABLE, right_rule
from paceplan.stretches import layers
from paceplan.texts import number_text, piece_text, plan_lines, ratio_text
from paceplan.works import drawn_in, right_sheet

MOST_FIGURES = 10
MOST_HANDS = 9
MOST_SPEEDS = 11
SQUARE = ("power", 2)
DONE = "ok"
ALONE = ("least", "speeds", "power", "stretches", "go", "left", "ratio")


def are_short(words):
    """Whether all numbers in words have at most so many figures as a row's may."""
    for word in words:
        if not all([len(part) <= MOST_FIGURES for part in word.replace(":", "/").split("/")]):
            return False
    return True


def rising_speeds_of(words):
    """The one to eleven rising speeds above nought that words write, None where they write none."""
    speeds = [ratio_of(word) for word in words]
    if not 1 <= len(speeds) <= MOST_SPEEDS or not all([is_above_nought(speed) for speed in speeds]):
        return None
    if not all([is_less(speeds[place - 1], speeds[place]) for place in range(1, len(speeds))]):
        return None
    return tuple(speeds)


def hands_of(words):
    """How many hands words write, None where they write none."""
    if len(words) != 1:
        return None
    number = number_of(words[0])
    if number is None or not 1 <= number <= MOST_HANDS:
        return None
    return (number,)


def coming_of(words):
    """The last turn and the amount that words write, None where they write none."""
    if len(words) != 2:
        return None
    return whole_or_none([number_of(words[0]), ratio_of(words[1])])


def things_of(words):
    """What the words of a row hand in, a tuple; None where they are no row."""
    word = words[0]
    rest = words[1:]
    if len(rest) == 0 and word in ALONE:
        return ()
    if not are_short(rest):
        return None
    if word == "work":
        return work_of(words)
    if word == "lean":
        return lean_of(words)
    if word in (POWER, TABLE):
        return rule_of(words)
    if word == "few" or (word == "top" and len(rest) == 1):
        return rising_speeds_of(rest)
    if word == "hands":
        return hands_of(rest)
    if word == "come":
        return coming_of(rest)
    return None


def in_row(texts):
    """Texts parted by blanks; of none a -."""
    if len(texts) == 0:
        return "-"
    return " ".join(texts)


def ratios_text(some):
    """Ratios parted by blanks; of none a -."""
    return in_row([ratio_text(one) for one in some])


def numbers_text(numbers):
    """Numbers parted by commas."""
    return ",".join([number_text(number) for number in numbers])


def take_sheet(desk, sheet):
    """Change the desk's sheet, or NoSheet."""
    right_sheet(sheet)
    desk.sheet = sheet
    return DONE


def take_work(desk, work):
    """A work more."""
    return take_sheet(desk, (desk.sheet[0] + (work,), desk.sheet[1]))


def take_lean(desk, lean):
    """A lean more."""
    return take_sheet(desk, (desk.sheet[0], desk.sheet[1] + (lean,)))


def take_rule(desk, rule):
    """Another rule, or NoRule."""
    right_rule(rule)
    desk.rule = rule
    return DONE


def tell_least(desk, things):
    """The lines of the least plan."""
    return " / ".join(plan_lines(least_plan(desk.sheet)))


def tell_speeds(desk, things):
    """The speeds of the least plan."""
    return ratios_text(speeds_of(least_plan(desk.sheet)))


def take_or_tell_power(desk, things):
    """The power of the least plan by the rule, or another rule where one is handed in."""
    if len(things) > 0:
        return take_rule(desk, things)
    plan = least_told(desk.sheet, desk.rule)[0]
    return ratio_text(power_of(desk.rule, speeds_of(plan)))


def tell_stretches(desk, things):
    """The layers of the drawn in works."""
    told = layers(drawn_in(desk.sheet))
    return in_row([numbers_text(layer[0]) + ":" + numbers_text(layer[1]) for layer in told])


def tell_few(desk, speeds):
    """The power of the least plan's speeds by the table of a few speeds."""
    plan = few_told(desk.sheet, desk.rule, speeds)[0]
    return ratio_text(power_of(few_table(desk.rule, speeds), speeds_of(plan)))


def tell_top(desk, things):
    """Whether one hand is in time at a greatest speed, else turns that are too few."""
    told = fits(drawn_in(desk.sheet), things[0])
    if told[0] == FITS:
        return FITS
    return " ".join([told[0]] + [number_text(turn) for turn in told[1]])


def tell_hands(desk, things):
    """The least power by so many hands."""
    plan = hands_least(drawn_in(desk.sheet), desk.rule, things[0])[0]
    return ratio_text(hands_power(desk.rule, things[0], plan))


def tell_come(desk, things):
    """The number of a work that comes to the keeper."""
    return number_text(desk.keeper.come(things[0], things[1]))


def tell_go(desk, things):
    """The pieces of the keeper's turn."""
    return in_row([piece_text(piece) for piece in desk.keeper.go()])


def tell_left(desk, things):
    """What the keeper has left of each work."""
    return ratios_text(desk.keeper.left())


def tell_ratio(desk, things):
    """The power of the keeper's plan of the works that came by their least one."""
    works = desk.keeper.works()
    if len(works) == 0:
        return in_row([])
    kept = power_of(SQUARE, speeds_of(kept_plan(works)))
    return ratio_text(over(kept, power_of(SQUARE, speeds_of(least_plan((works, ()))))))


ANSWERS = {
    "work": take_work, "lean": take_lean, "table": take_rule, "power": take_or_tell_power,
    "least": tell_least, "speeds": tell_speeds, "stretches": tell_stretches, "few": tell_few, "top": tell_top,
    "hands": tell_hands, "come": tell_come, "go": tell_go, "left": tell_left, "ratio": tell_ratio,
}


class Desk:
    """Has a sheet, a rule and a keeper."""

    def __init__(self):
        self.sheet = ((), ())
        self.rule = SQUARE
        self.keeper = Keeper()

    def say(self, row):
        """The answer to a row, or what it is refused with: NoRow ahead of all else."""
        words = row.split(" ") if isinstance(row, str) else [""]
        things = things_of(words)
        if things is None:
            raise NoRow("the row is none of those that a desk knows")
        return ANSWERS[words[0]](self, things)

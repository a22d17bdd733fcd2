"""The refusals [3]: one base, and each refusal straight under it.

A refusal keeps copies of its fields and asks nothing of them.
"""

from paceplan.things import copied


class PaceError(ValueError):
    """Any refusal."""


class NoSheet(PaceError):
    """The thing is no sheet [6]."""

    def __init__(self, word, number):
        self.word = copied(word)
        self.number = copied(number)


class NoRoom(PaceError):
    """A work has no turn left, or not enough speed in its turns [7, 19]."""

    def __init__(self, work):
        self.work = copied(work)


class NoRule(PaceError):
    """The thing is no rule of power [8]."""

    def __init__(self, number):
        self.number = copied(number)


class NoSpeed(PaceError):
    """The speed is above a table's greatest one [9]."""

    def __init__(self, speed):
        self.speed = copied(speed)


class NoMix(PaceError):
    """The thing is no such mixture [11]."""

    def __init__(self, word, number):
        self.word = copied(word)
        self.number = copied(number)


class NoPlan(PaceError):
    """The thing is no right plan of the sheet [12]."""

    def __init__(self, word, number):
        self.word = copied(word)
        self.number = copied(number)


class NoText(PaceError):
    """The lines write no such thing [15]."""

    def __init__(self, at):
        self.at = copied(at)


class NoStretch(PaceError):
    """The thing is no right paper of stretches [21]."""

    def __init__(self, word, number):
        self.word = copied(word)
        self.number = copied(number)


class NoPrice(PaceError):
    """The thing is no prices of the works [23]."""

    def __init__(self, work):
        self.work = copied(work)


class NoLeast(PaceError):
    """The plan's power is more than the bound of the prices [26]."""

    def __init__(self, over):
        self.over = copied(over)


class NoMuch(PaceError):
    """The thing is no turns that are too few [28]."""

    def __init__(self, word):
        self.word = copied(word)


class NoBill(PaceError):
    """The thing is no bill [35]."""

    def __init__(self, word, number):
        self.word = copied(word)
        self.number = copied(number)


class NoRatio(PaceError):
    """There is no ratio with nought below [5]."""

    def __init__(self, text):
        self.text = text


class NoWork(PaceError):
    """The work can't come to the keeper [33]."""

    def __init__(self, text):
        self.text = text


class NoTurn(PaceError):
    """The keeper has no turn left [33]."""

    def __init__(self, text):
        self.text = text


class NoRow(PaceError):
    """The row is none of the desk's [37]."""

    def __init__(self, text):
        self.text = text

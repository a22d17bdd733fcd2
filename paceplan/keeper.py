"""A keeper, which does not know what comes [33], and its plan of works [34]."""

from paceplan.dealing import least_plan
from paceplan.errors import NoTurn, NoWork
from paceplan.ratios import NOUGHT, minus
from paceplan.works import MOST_WORKS, TURNS, is_work


def waiting_works(works, amounts, turn):
    """The works of which some amount is left, with these amounts and a turn as their first one; and their numbers."""
    numbers = [number for number, amount in enumerate(amounts) if amount != NOUGHT]
    return (tuple([(turn, works[number][1], amounts[number]) for number in numbers]), numbers)


def renumbered(pieces, numbers):
    """The pieces of works that go by their places among numbers, under these numbers."""
    return tuple([(numbers[piece[0]], piece[1]) for piece in pieces])


class Keeper:
    """Does, turn by turn, what the least plan of all that is left has in the present turn."""

    def __init__(self):
        self.turn = 0
        self.known = []
        self.rest = []
        self.done = []

    def come(self, last, amount):
        """The number of a work that comes now, or NoWork."""
        work = (self.turn, last, amount)
        if not is_work(work):
            raise NoWork("no last turn from the present one on, or no amount above nought")
        if len(self.known) >= MOST_WORKS:
            raise NoWork("as many works have come as may")
        self.known.append(work)
        self.rest.append(amount)
        return len(self.known) - 1

    def go(self):
        """The pieces of the present turn, behind which the keeper is at the next one; or NoTurn."""
        if self.turn >= TURNS:
            raise NoTurn("the last turn is past")
        waiting = waiting_works(self.known, self.rest, self.turn)
        pieces = renumbered(least_plan((waiting[0], ()))[self.turn], waiting[1])
        for piece in pieces:
            self.rest[piece[0]] = minus(self.rest[piece[0]], piece[1])
        self.done.append(pieces)
        self.turn += 1
        return pieces

    def now(self):
        """The turn at which the keeper is."""
        return self.turn

    def works(self):
        """The works that came."""
        return tuple(self.known)

    def left(self):
        """What is left of each work that came."""
        return tuple(self.rest)

    def plan(self):
        """The turns done."""
        return tuple(self.done)


def kept_plan(works):
    """The plan of a keeper to whom works come at their first turns, each work under its own number."""
    keeper = Keeper()
    numbers = []
    plan = []
    for turn in range(TURNS):
        for number, work in enumerate(works):
            if work[0] == turn:
                keeper.come(work[1], work[2])
                numbers.append(number)
        plan.append(renumbered(keeper.go(), numbers))
    return tuple(plan)

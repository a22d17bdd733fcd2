"""Works by several hands: their speeds [30], a least plan with its prices [31], plans below a greatest speed [32]."""

from paceplan.prices import plain_prices
from paceplan.ratios import NOUGHT, over, ratio, times, total, whole_parts
from paceplan.rooms import FITS, MUCH
from paceplan.works import TURNS, in_window


class Pouring:
    """Works poured into turns: into a turn of each work as much as one hand does at a speed, of all as its hands do.

    Works go by their numbers, turns by numbers behind these. Where one is full, room is made by pouring on from it.
    """

    def __init__(self, works, free, speed):
        parts = whole_parts([speed] + [work[2] for work in works])
        self.inside = works
        self.most = parts[0]
        self.whole = parts[1:]
        self.rest = parts[1:]
        self.room = [parts[0] * hands for hands in free]
        self.poured = [[0] * TURNS for work in works]

    def beside(self, node):
        """The turns into which more of a work can go, or the works of which something can leave a turn."""
        count = len(self.inside)
        if node >= count:
            return [number for number in range(count) if self.poured[number][node - count] > 0]
        work = self.inside[node]
        return [count + turn for turn in range(work[0], work[1] + 1) if self.poured[node][turn] < self.most]

    def reached(self, numbers):
        """All that can be reached from works, by the number of what it is reached from; of these themselves None."""
        sources = {}
        row = list(numbers)
        for number in numbers:
            sources[number] = None
        place = 0
        while place < len(row):
            source = row[place]
            for node in self.beside(source):
                if node not in sources:
                    sources[node] = source
                    row.append(node)
            place += 1
        return sources

    def turns_of(self, sources):
        """The turns among what was reached, the nearest first."""
        count = len(self.inside)
        return [node - count for node in sources if node >= count]

    def has_way_on(self, number):
        """Whether more could be poured from a work, by way of others too."""
        return any([self.room[turn] > 0 for turn in self.turns_of(self.reached([number]))])

    def pour_along(self, sources, turn):
        """Pour as much as can be along the way to a turn."""
        count = len(self.inside)
        way = [count + turn]
        while sources[way[-1]] is not None:
            way.append(sources[way[-1]])
        bounds = [self.room[turn], self.rest[way[-1]]]
        for place in range(len(way) - 1):
            bounds.append(self.most_between(way[place + 1], way[place]))
        amount = min(bounds)
        self.room[turn] -= amount
        self.rest[way[-1]] -= amount
        for place in range(len(way) - 1):
            self.move(way[place + 1], way[place], amount)

    def most_between(self, source, node):
        """How much can be poured from a work into a turn, or out of a turn back to a work."""
        count = len(self.inside)
        if source < count:
            return self.most - self.poured[source][node - count]
        return self.poured[node][source - count]

    def move(self, source, node, amount):
        """Pour an amount from a work into a turn, or out of a turn back to a work."""
        count = len(self.inside)
        if source < count:
            self.poured[source][node - count] += amount
        else:
            self.poured[node][source - count] -= amount

    def pour(self):
        """Pour all that can be; told is what can still be reached from works of which something is left."""
        while True:
            sources = self.reached([number for number, rest in enumerate(self.rest) if rest > 0])
            ends = [turn for turn in self.turns_of(sources) if self.room[turn] > 0]
            if len(ends) == 0:
                return sources
            self.pour_along(sources, ends[0])

    def amounts(self, number):
        """For each turn the amount of a work, all of which is poured."""
        work = self.inside[number]
        return [times(work[2], ratio(part, self.whole[number])) for part in self.poured[number]]


def busy_hands(works, free):
    """For each turn the lesser number of its hands left and of the works in whose windows it is."""
    return [min(hands, len([work for work in works if in_window(work, turn)])) for turn, hands in enumerate(free)]


def pace(works, free):
    """The amounts of works by all turns' busy hands."""
    return over(total([work[2] for work in works]), (sum(busy_hands(works, free)), 1))


def tightest_pouring(works, free):
    """The greatest pace of some of the works, and all works poured at that pace."""
    group = works
    while True:
        speed = pace(group, free)
        pouring = Pouring(works, free, speed)
        sources = pouring.pour()
        if len(sources) == 0:
            return (speed, pouring)
        # What can't be poured at this pace shows, with all that is in its way, works of a greater one.
        group = [work for number, work in enumerate(works) if number in sources]


def paced(works, hands):
    """For each work a pair of its speed and of its amount in each turn."""
    told = {}
    numbers = list(range(len(works)))
    free = [hands] * TURNS
    while len(numbers) > 0:
        staying = [works[number] for number in numbers]
        tightest = tightest_pouring(staying, free)
        speed = tightest[0]
        pouring = tightest[1]
        tight = [place for place in range(len(staying)) if not pouring.has_way_on(place)]
        for place in tight:
            told[numbers[place]] = (speed, pouring.amounts(place))
        busy = busy_hands([staying[place] for place in tight], free)
        free = [free[turn] - busy[turn] for turn in range(TURNS)]
        numbers = [number for number in numbers if number not in told]
    return [told[number] for number in range(len(works))]


def plan_of(rows):
    """The plan of works that have these amounts in each turn."""
    plan = []
    for turn in range(TURNS):
        plan.append(tuple([(number, row[turn]) for number, row in enumerate(rows) if row[turn] != NOUGHT]))
    return tuple(plan)


def work_speeds(works, hands):
    """For each work its speed by so many hands."""
    return tuple([pair[0] for pair in paced(works, hands)])


def hands_least(works, rule, hands):
    """A plan of least power by so many hands, and the prices that show it; or NoSpeed."""
    told = paced(works, hands)
    prices = plain_prices(rule, [pair[0] for pair in told])
    return (plan_of([pair[1] for pair in told]), prices)


def hands_fit(works, hands, top):
    """(fits, a right plan none of whose hands goes faster than top), or (much, turns that are too few)."""
    pouring = Pouring(works, [hands] * TURNS, top)
    sources = pouring.pour()
    if len(sources) > 0:
        return (MUCH, tuple(sorted(pouring.turns_of(sources))))
    return (FITS, plan_of([pouring.amounts(number) for number in range(len(works))]))

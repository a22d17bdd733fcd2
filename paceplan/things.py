"""What any thing is, and a copy of one [2]."""


def is_whole(thing):
    """Whether thing is a whole number; True and False are ints to Python, but none here."""
    return isinstance(thing, int) and not isinstance(thing, bool)


def is_tuple_of(thing, length):
    """Whether thing is a tuple of so many parts."""
    return isinstance(thing, tuple) and len(thing) == length


def is_number_of(thing, count):
    """Whether thing is the number, from 0, of one of so many."""
    return is_whole(thing) and 0 <= thing < count


def is_rising(thing, count):
    """Whether thing is a tuple of rising numbers, from 0, of some of so many."""
    if not isinstance(thing, tuple) or not all([is_number_of(part, count) for part in thing]):
        return False
    return all([thing[place - 1] < thing[place] for place in range(1, len(thing))])


def copied(thing):
    """A copy of thing, so that a list changed later by the one who handed it in changes nothing here."""
    if isinstance(thing, list):
        return [copied(part) for part in thing]
    if isinstance(thing, tuple):
        return tuple([copied(part) for part in thing])
    return thing

"""What the parts of claims and papers are.

The checker tells this by itself, without the rest of the package, so that a fault there can't hide here.
"""

SMALL = "abcdefghijklmnopqrstuvwxyz"
LAST_DAY = 9999


def is_number(thing):
    """Whether a thing is a whole number; True and False are none."""
    return isinstance(thing, int) and not isinstance(thing, bool)


def is_within(thing, least, greatest):
    """Whether a thing is a whole number from the one to the other."""
    return is_number(thing) and least <= thing <= greatest


def is_from(thing, least):
    """Whether a thing is a whole number, and at least this one."""
    return is_number(thing) and least <= thing


def is_day(thing):
    """Whether a thing is a day."""
    return is_within(thing, 0, LAST_DAY)


def is_name(thing):
    """Whether a thing is the name of a house or a sort."""
    return isinstance(thing, str) and len(thing) in range(1, 7) and all([sign in SMALL for sign in thing])


def is_tuple_of(thing, many):
    """Whether a thing is a tuple of so many parts."""
    return isinstance(thing, tuple) and len(thing) == many


def are_all(thing, is_right):
    """Whether a thing is a tuple of things of which each is right."""
    return isinstance(thing, tuple) and all([is_right(part) for part in thing])


def is_rising(parts):
    """Whether each of these parts is more than the one ahead."""
    return all([parts[at] < parts[at + 1] for at in range(len(parts) - 1)])


def is_number_of(thing, rows):
    """Whether a thing is the number of one of these rows."""
    return is_within(thing, 0, len(rows) - 1)

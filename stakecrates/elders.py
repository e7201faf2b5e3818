"""How many bottles that went out ahead of a day are still out, at least and at most."""

from stakecrates.checks import check_day
from stakecrates.dealings import check_backs, check_outs, dealt, left, take
from stakecrates.errors import NoMany
from stakecrates.names import is_whole


def elder_left(outs, backs, day, by):
    """How many that went out ahead of a day are left out where the BACKS are dealt by a rule."""
    rest = left(outs, backs, dealt(outs, backs, by))
    return sum([many for out, many in zip(outs, rest) if out[0] < day])


def elder(outs, backs, day):
    """(LEAST, GREATEST) of how many that went out ahead of a day are still out behind all BACKS."""
    check_outs(outs)
    check_backs(backs)
    check_day(day)
    # What is there for one BACK is there for all behind it, so taking the eldest always takes as many elder ones
    # as can be, and taking the newest as few.
    return elder_left(outs, backs, day, "first"), elder_left(outs, backs, day, "last")


def dealt_to(outs, backs, day, many):
    """A dealing by which so many that went out ahead of a day are still out behind all BACKS."""
    least, greatest = elder(outs, backs, day)
    if not is_whole(many, least, greatest):
        raise NoMany(many)
    elders = [number for number, out in enumerate(outs) if out[0] < day]
    others = [number for number, out in enumerate(outs) if out[0] >= day]
    return dealt_with(outs, backs, elders, others, sum([outs[number][1] for number in elders]) - many)


def dealt_with(outs, backs, elders, others, due):
    """The dealing that takes just so many elder ones, as soon as can be."""
    rest = [out[1] for out in outs]
    dealing = []
    for number, (day, many) in enumerate(backs):
        taken = take(outs, rest, elders, day, min(many, due))
        old = sum([took for out, took in taken])
        due -= old
        taken.extend(take(outs, rest, others, day, many - old))
        dealing.extend([(number, out, took) for out, took in taken])
    # Elder ones have the lesser numbers, so this rises as it is.
    return tuple(dealing)

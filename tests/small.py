"""Small OUTS and BACKS, and all dealings of them, found one by one."""

import itertools


def all_outs(days, manies, amounts):
    """All OUTS of rising days among these."""
    rows = list(itertools.product(manies, amounts))
    for size in range(len(days) + 1):
        for chosen in itertools.combinations(days, size):
            for parts in itertools.product(rows, repeat=size):
                yield tuple((day,) + part for day, part in zip(chosen, parts))


def all_backs(days, manies, most):
    """All BACKS of at most so many rows, days not falling."""
    for size in range(most + 1):
        for chosen in itertools.combinations_with_replacement(days, size):
            for parts in itertools.product(manies, repeat=size):
                yield tuple(zip(chosen, parts))


def splits(many, rooms):
    """All ways to put so many into rooms of these sizes."""
    if not rooms:
        if many == 0:
            yield ()
        return
    for here in range(min(many, rooms[0]) + 1):
        for behind in splits(many - here, rooms[1:]):
            yield (here,) + behind


def all_dealings(outs, backs, rest=None, number=0):
    """All dealings of OUTS and BACKS, each once."""
    rest = [out[1] for out in outs] if rest is None else rest
    if number == len(backs):
        yield ()
        return
    day, many = backs[number]
    rooms = [room if out[0] <= day else 0 for out, room in zip(outs, rest)]
    for split in splits(many, rooms):
        part = tuple((number, out, took) for out, took in enumerate(split) if took)
        for behind in all_dealings(outs, backs, [room - took for room, took in zip(rest, split)], number + 1):
            yield part + behind


def rests(outs, dealing):
    """How many of each OUT are left by a dealing."""
    return tuple(many - sum(took for back, out, took in dealing if out == number)
                 for number, (day, many, amount) in enumerate(outs))


def sum_of(outs, dealing):
    return sum(took * outs[out][2] for back, out, took in dealing)


def bottle_by_bottle(outs, backs, key):
    """The dealing by a key, each bottle for itself, the eldest of alike ones; None where there is none."""
    bottles = [number for number, out in enumerate(outs) for one in range(out[1])]
    counts = {}
    for back, (day, many) in enumerate(backs):
        for one in range(many):
            there = [out for out in bottles if outs[out][0] <= day]
            if not there:
                return None
            out = min(there, key=lambda number: (key(outs[number][0], outs[number][2]), number))
            bottles.remove(out)
            counts[back, out] = counts.get((back, out), 0) + 1
    return tuple((back, out, counts[back, out]) for back, out in sorted(counts))


def first_short(outs, backs):
    """(BACK, MANY) of the first BACK up to which more came back than went out by its DAY, or None."""
    for number, (day, many) in enumerate(backs):
        more = sum(back[1] for back in backs[:number + 1]) - sum(out[1] for out in outs if out[0] <= day)
        if more > 0:
            return number, more
    return None

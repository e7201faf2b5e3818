"""Small OUTS and BACKS, and all dealings of them, found one by one."""

import itertools
import random


def all_outs(days, manies, amounts):
    """All OUTS of rising days among these."""
    rows = list(itertools.product(manies, amounts))
    for size in range(len(days) + 1):
        for chosen in itertools.combinations(days, size):
            for parts in itertools.product(rows, repeat=size):
                yield tuple((day,) + part for day, part in zip(chosen, parts))


def all_backs(days, manies, most):
    """All BACKS of at most so many rows, days not falling."""
    for size in range(most + 1):
        for chosen in itertools.combinations_with_replacement(days, size):
            for parts in itertools.product(manies, repeat=size):
                yield tuple(zip(chosen, parts))


def splits(many, rooms):
    """All ways to put so many into rooms of these sizes."""
    if not rooms:
        if many == 0:
            yield ()
        return
    for here in range(min(many, rooms[0]) + 1):
        for behind in splits(many - here, rooms[1:]):
            yield (here,) + behind


def all_dealings(outs, backs, rest=None, number=0):
    """All dealings of OUTS and BACKS, each once."""
    rest = [out[1] for out in outs] if rest is None else rest
    if number == len(backs):
        yield ()
        return
    day, many = backs[number]
    rooms = [room if out[0] <= day else 0 for out, room in zip(outs, rest)]
    for split in splits(many, rooms):
        part = tuple((number, out, took) for out, took in enumerate(split) if took)
        for behind in all_dealings(outs, backs, [room - took for room, took in zip(rest, split)], number + 1):
            yield part + behind


def rests(outs, dealing):
    """How many of each OUT are left by a dealing."""
    return tuple(many - sum(took for back, out, took in dealing if out == number)
                 for number, (day, many, amount) in enumerate(outs))


def sum_of(outs, dealing):
    return sum(took * outs[out][2] for back, out, took in dealing)


def bottle_by_bottle(outs, backs, key):
    """The dealing by a key, each bottle for itself, the eldest of alike ones; None where there is none."""
    bottles = [number for number, out in enumerate(outs) for one in range(out[1])]
    counts = {}
    for back, (day, many) in enumerate(backs):
        for one in range(many):
            there = [out for out in bottles if outs[out][0] <= day]
            if not there:
                return None
            out = min(there, key=lambda number: (key(outs[number][0], outs[number][2]), number))
            bottles.remove(out)
            counts[back, out] = counts.get((back, out), 0) + 1
    return tuple((back, out, counts[back, out]) for back, out in sorted(counts))


def first_short(outs, backs):
    """(BACK, MANY) of the first BACK up to which more came back than went out by its DAY, or None."""
    for number, (day, many) in enumerate(backs):
        more = sum(back[1] for back in backs[:number + 1]) - sum(out[1] for out in outs if out[0] <= day)
        if more > 0:
            return number, more
    return None


def some_rows(seed, few, more):
    """OUTS and BACKS of alike days and AMOUNTs, with AMOUNT 0, some of them short; all so small that all is tried."""
    source = random.Random(seed)
    every = itertools.product(all_outs((1, 3), (1, 2), (0, 4)), all_backs((0, 2, 3), (1, 2), 2))
    rows = source.sample(list(every), few)
    for turn in range(more):
        days = sorted(source.sample(range(7), source.randrange(1, 4)))
        outs = tuple((day, source.randrange(1, 4), source.choice((0, 3, 3, 5, 9))) for day in days)
        came = sorted(source.randrange(8) for one in range(source.randrange(4)))
        rows.append((outs, tuple((day, source.randrange(1, 3)) for day in came)))
    return rows + [((), ()), (((2, 3, 15), (5, 2, 8), (7, 4, 20)), ((5, 1), (7, 2), (7, 3)))]

"""Claims about bottles that went out and came back: dealt, short, elder, most and least.

OUTS are rows (DAY, MANY, AMOUNT), BACKS rows (DAY, MANY), a dealing rows (BACK, OUT, MANY).
"""

from stakecrates.checker_parts import (are_all, is_day, is_from, is_number, is_number_of, is_rising, is_tuple_of,
                                       is_within)

MOST_BOTTLES = 99999
MOST_PENCE = 9999


def is_out(thing):
    """Whether a thing may stand in OUTS."""
    return (is_tuple_of(thing, 3) and is_day(thing[0]) and is_within(thing[1], 1, MOST_BOTTLES)
            and is_within(thing[2], 0, MOST_PENCE))


def is_back(thing):
    """Whether a thing may stand in BACKS."""
    return is_tuple_of(thing, 2) and is_day(thing[0]) and is_within(thing[1], 1, MOST_BOTTLES)


def are_outs(thing):
    """Whether a thing is OUTS."""
    return are_all(thing, is_out) and is_rising([day for day, many, amount in thing])


def are_backs(thing):
    """Whether a thing is BACKS."""
    return are_all(thing, is_back) and all([thing[at][0] <= thing[at + 1][0] for at in range(len(thing) - 1)])


def begins_right(parts, many):
    """Whether these parts of a claim are so many, OUTS and BACKS first."""
    return len(parts) == many and are_outs(parts[0]) and are_backs(parts[1])


def went(outs):
    """How many went out by these OUTS."""
    return sum([many for day, many, amount in outs])


def came(backs):
    """How many came back by these BACKS."""
    return sum([many for day, many in backs])


def by_day_of(outs, back):
    """Those OUTS that went out by the DAY of a BACK."""
    return [out for out in outs if out[0] <= back[0]]


def is_deal(outs, backs, thing):
    """Whether a thing may stand in a dealing of these."""
    return (is_tuple_of(thing, 3) and is_number_of(thing[0], backs) and is_number_of(thing[1], outs)
            and is_from(thing[2], 1) and outs[thing[1]][0] <= backs[thing[0]][0])


def deals_all(outs, backs, deals):
    """Whether deals that may stand in a dealing take all of each BACK, and no more than there is of each OUT."""
    backs_dealt = [0] * len(backs)
    outs_dealt = [0] * len(outs)
    for back, out, many in deals:
        backs_dealt[back] += many
        outs_dealt[out] += many
    return (backs_dealt == [many for day, many in backs]
            and all([dealt <= out[1] for dealt, out in zip(outs_dealt, outs)]))


def is_dealing(outs, backs, thing):
    """Whether a thing is a dealing of OUTS and BACKS."""
    return (are_all(thing, lambda deal: is_deal(outs, backs, deal))
            and is_rising([(back, out) for back, out, many in thing]) and deals_all(outs, backs, thing))


def takes_dealt(parts, paper):
    """Whether there is a dealing of OUTS and BACKS: the paper."""
    return begins_right(parts, 2) and is_dealing(parts[0], parts[1], paper)


def takes_short(parts, paper):
    """Whether MANY more came back than went out by then: up to the BACK of which the paper is the number."""
    if not begins_right(parts, 3) or not is_from(parts[2], 1) or not is_number_of(paper, parts[1]):
        return False
    outs, backs, many = parts
    return many == came(backs[:paper + 1]) - went(by_day_of(outs, backs[paper]))


def elder_left(outs, dealing, day):
    """How many that went out ahead of a day are left out by a dealing."""
    elders = [number for number, out in enumerate(outs) if out[0] < day]
    return sum([outs[number][1] for number in elders]) - sum([many for back, out, many in dealing if out in elders])


def most_elder(outs, backs, day, number):
    """How many elder ones are out at most, as up to the BACK of this number too few newer ones were out."""
    elders = went([out for out in outs if out[0] < day])
    if number is None:
        return elders
    newer = [out for out in by_day_of(outs, backs[number]) if out[0] >= day]
    return elders - came(backs[:number + 1]) + went(newer)


def takes_elder(parts, paper):
    """Whether LEAST and GREATEST are so many elder ones: by two dealings and a BACK, or None."""
    if not begins_right(parts, 5) or not is_day(parts[2]) or not is_tuple_of(paper, 3):
        return False
    outs, backs, day, least, greatest = parts
    dealing, other, number = paper
    if not is_number(least) or not is_number(greatest) or not (number is None or is_number_of(number, backs)):
        return False
    if not is_dealing(outs, backs, dealing) or not is_dealing(outs, backs, other):
        return False
    elders = went([out for out in outs if out[0] < day])
    return (least == elder_left(outs, dealing, day) == max(0, elders - came(backs))
            and greatest == elder_left(outs, other, day) == most_elder(outs, backs, day, number))


def least_back(outs, backs, amount, number):
    """How many of this AMOUNT or a greater one came back at least, as by the BACK too few lesser ones were out."""
    if number is None:
        return 0
    lesser = [out for out in by_day_of(outs, backs[number]) if out[2] < amount]
    return came(backs[:number + 1]) - went(lesser)


def most_back(outs, backs, amount, number):
    """How many of this AMOUNT or a greater one came back at most, as by the BACK no more of these were out."""
    if number is None:
        return came(backs)
    dearer = [out for out in by_day_of(outs, backs[number]) if out[2] >= amount]
    return went(dearer) + came(backs[number + 1:])


def bound_of(outs, backs, times, count):
    """The sum of all counts, each multiplied by what its AMOUNT is more than the one ahead."""
    ahead = 0
    bound = 0
    for amount, number in zip(amounts_of(outs), times):
        bound += count(outs, backs, amount, number) * (amount - ahead)
        ahead = amount
    return bound


def amounts_of(outs):
    """The unlike AMOUNTs above 0 of OUTS, rising."""
    return sorted({amount for day, many, amount in outs if amount > 0})


def are_times(outs, backs, thing):
    """Whether a thing is a tuple of None or the number of a BACK for each of the unlike AMOUNTs."""
    return (is_tuple_of(thing, len(amounts_of(outs)))
            and are_all(thing, lambda number: number is None or is_number_of(number, backs)))


def takes_sum(parts, paper, count):
    """Whether SUM is out by the paper's dealing, and just what this gives back is bound by the counts of its TIMES."""
    if not begins_right(parts, 3) or not is_number(parts[2]) or not is_tuple_of(paper, 2):
        return False
    outs, backs, much = parts
    dealing, times = paper
    if not is_dealing(outs, backs, dealing) or not are_times(outs, backs, times):
        return False
    given = sum([many * outs[out][2] for back, out, many in dealing])
    all_out = sum([many * amount for day, many, amount in outs])
    return much == all_out - given and given == bound_of(outs, backs, times, count)


def takes_most(parts, paper):
    """Whether at most SUM is out."""
    return takes_sum(parts, paper, least_back)


def takes_least(parts, paper):
    """Whether at least SUM is out."""
    return takes_sum(parts, paper, most_back)

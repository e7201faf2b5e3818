"""Dealings: which bottles that came back may be which that went out."""

from stakecrates.errors import NoBacks, NoDealing, NoOuts, NoRule, Short
from stakecrates.names import is_amount, is_day, is_row, is_whole

MOST_IN_ROW = 99999


def is_out(thing):
    """Whether a thing is a tuple (DAY, MANY, AMOUNT)."""
    return (isinstance(thing, tuple) and len(thing) == 3
            and is_day(thing[0]) and is_whole(thing[1], 1, MOST_IN_ROW) and is_amount(thing[2]))


def is_back(thing):
    """Whether a thing is a tuple (DAY, MANY)."""
    return isinstance(thing, tuple) and len(thing) == 2 and is_day(thing[0]) and is_whole(thing[1], 1, MOST_IN_ROW)


def check_outs(outs):
    """Refuse what are no OUTS."""
    if not is_row(outs):
        raise NoOuts(None)
    for number, out in enumerate(outs):
        if not is_out(out) or (number > 0 and outs[number - 1][0] >= out[0]):
            raise NoOuts(number)


def check_backs(backs):
    """Refuse what are no BACKS."""
    if not is_row(backs):
        raise NoBacks(None)
    for number, back in enumerate(backs):
        if not is_back(back) or (number > 0 and backs[number - 1][0] > back[0]):
            raise NoBacks(number)


def check_short(outs, backs):
    """Refuse OUTS and BACKS of which there is no dealing."""
    came = 0
    for number, (day, many) in enumerate(backs):
        came += many
        lack = came - sum([out[1] for out in outs if out[0] <= day])
        if lack > 0:
            raise Short(number, lack)


def rank_first(day, amount):
    """The eldest is the least."""
    return day


def rank_last(day, amount):
    """The newest is the least."""
    return -day


def rank_cheap(day, amount):
    """That of the least AMOUNT is the least."""
    return amount


def rank_dear(day, amount):
    """That of the greatest AMOUNT is the least."""
    return -amount


RANKS = {"first": rank_first, "last": rank_last, "cheap": rank_cheap, "dear": rank_dear}


def check_rule(by):
    """Refuse another text than a rule's, and what else is certainly no key."""
    if isinstance(by, str):
        if by not in RANKS:
            raise NoRule(by)
    elif isinstance(by, (int, list, tuple, dict)) or isinstance(by, bytes):
        raise NoRule(by)


def order_of(outs, by):
    """The numbers of all OUTS, those that the rule takes first ahead; of alike ones the eldest, as OUTS rise."""
    word = "first" if by is None else by
    rank = RANKS[word] if isinstance(word, str) else word
    return sorted(range(len(outs)), key=lambda number: rank(outs[number][0], outs[number][2]))


def take(outs, rest, order, day, many):
    """Take at most so many of those out by a day off the rest of OUTS, in this order; a list of (OUT, MANY)."""
    taken = []
    lack = many
    for number in order:
        took = min(rest[number], lack) if outs[number][0] <= day else 0
        if took > 0:
            rest[number] -= took
            lack -= took
            taken.append((number, took))
    return taken


def dealt(outs, backs, by=None):
    """The dealing in which each BACK in its turn takes bottles by the rule."""
    check_outs(outs)
    check_backs(backs)
    check_rule(by)
    check_short(outs, backs)
    order = order_of(outs, by)
    rest = [out[1] for out in outs]
    dealing = []
    for number, (day, many) in enumerate(backs):
        dealing.extend([(number, out, took) for out, took in take(outs, rest, order, day, many)])
    return tuple(sorted(dealing))


def is_part(outs, backs, thing):
    """Whether a thing is a tuple (BACK, OUT, MANY) that may stand in a dealing."""
    return (isinstance(thing, tuple) and len(thing) == 3
            and is_whole(thing[0], 0, len(backs) - 1) and is_whole(thing[1], 0, len(outs) - 1)
            and is_whole(thing[2], 1, outs[thing[1]][1]) and outs[thing[1]][0] <= backs[thing[0]][0])


def rises(dealing):
    """Whether the parts of a dealing rise, each two numbers once."""
    return all([one[:2] < other[:2] for one, other in zip(dealing, dealing[1:])])


def back_rests(backs, dealing):
    """How many of each BACK are not dealt."""
    rest = [back[1] for back in backs]
    for back, out, many in dealing:
        rest[back] -= many
    return rest


def out_rests(outs, dealing):
    """How many of each OUT are not dealt."""
    rest = [out[1] for out in outs]
    for back, out, many in dealing:
        rest[out] -= many
    return rest


def is_dealing(outs, backs, thing):
    """Whether a thing is a dealing of OUTS and BACKS."""
    check_outs(outs)
    check_backs(backs)
    if not isinstance(thing, tuple) or not all([is_part(outs, backs, part) for part in thing]) or not rises(thing):
        return False
    return (all([many == 0 for many in back_rests(backs, thing)])
            and all([many >= 0 for many in out_rests(outs, thing)]))


def check_dealing(outs, backs, dealing):
    """Refuse what is no dealing of OUTS and BACKS; where these are short nothing is one."""
    if not is_dealing(outs, backs, dealing):
        raise NoDealing("not a dealing of these")


def sum_back(outs, backs, dealing):
    """The sum of all AMOUNTs that are given back by a dealing."""
    check_dealing(outs, backs, dealing)
    return sum([many * outs[out][2] for back, out, many in dealing])


def left(outs, backs, dealing):
    """How many of each OUT are left out by a dealing."""
    check_dealing(outs, backs, dealing)
    return tuple(out_rests(outs, dealing))

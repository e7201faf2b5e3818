"""What the checker must take, told once more and apart from the program; and things put otherwise at each place."""

import itertools

from tests.test_evening import partings


def whole(thing):
    return type(thing) is int


def between(least, greatest):
    return lambda thing: whole(thing) and least <= thing <= greatest


def from_one(thing):
    return whole(thing) and thing >= 1


def name(thing):
    return type(thing) is str and thing.isascii() and thing.isalpha() and thing.islower() and len(thing) <= 6


def truth(thing):
    return thing is True or thing is False


def nothing_or(part):
    return lambda thing: thing is None or part(thing)


def tuple_of(*parts):
    return lambda thing: (type(thing) is tuple and len(thing) == len(parts)
                          and all(part(one) for part, one in zip(parts, thing)))


def row_of(part):
    return lambda thing: type(thing) is tuple and all(part(one) for one in thing)


day = between(0, 9999)
outs_like = row_of(tuple_of(day, between(1, 99999), between(0, 9999)))
backs_like = row_of(tuple_of(day, between(1, 99999)))
dealing_like = row_of(tuple_of(whole, whole, from_one))
kinds_like = row_of(tuple_of(name, name, from_one))
stops_like = row_of(tuple_of(between(0, 999), between(0, 999)))
goings_like = row_of(tuple_of(name, name, from_one))
balances_like = row_of(tuple_of(name, lambda thing: whole(thing) and thing != 0))
FORMS = {
    "dealt": ((outs_like, backs_like), dealing_like),
    "short": ((outs_like, backs_like, from_one), whole),
    "elder": ((outs_like, backs_like, day, whole, whole),
              tuple_of(dealing_like, dealing_like, nothing_or(whole))),
    "most": ((outs_like, backs_like, whole), tuple_of(dealing_like, row_of(nothing_or(whole)))),
    "least": ((outs_like, backs_like, whole), tuple_of(dealing_like, row_of(nothing_or(whole)))),
    "start": ((row_of(tuple_of(day, kinds_like, truth)), kinds_like), row_of(whole)),
    "room": ((stops_like, whole), row_of(whole)),
    "evened": ((balances_like, whole), goings_like),
    "fewest": ((balances_like, whole), goings_like),
}


def rising(parts):
    return list(parts) == sorted(set(parts))


def deals_right(outs, backs, dealing):
    """Whether a dealing deals all BACKS, bottle by bottle."""
    if not rising([deal[:2] for deal in dealing]):
        return False
    bottles = {number: many for number, (when, many, amount) in enumerate(outs)}
    due = {number: many for number, (when, many) in enumerate(backs)}
    for back, out, many in dealing:
        if back not in due or out not in bottles or outs[out][0] > backs[back][0]:
            return False
        bottles[out] -= many
        due[back] -= many
    return not any(due.values()) and min(bottles.values(), default=0) >= 0


def days_right(outs, backs):
    days = [back[0] for back in backs]
    return rising([out[0] for out in outs]) and days == sorted(days)


def came(backs, number):
    return sum(many for at, (when, many) in enumerate(backs) if at <= number)


def dealt_right(claim, paper):
    return deals_right(claim[1], claim[2], paper)


def short_right(claim, paper):
    word, outs, backs, many = claim
    if paper not in range(len(backs)):
        return False
    return came(backs, paper) - sum(out[1] for out in outs if out[0] <= backs[paper][0]) == many


def elder_right(claim, paper):
    word, outs, backs, ahead, least, greatest = claim
    if not deals_right(outs, backs, paper[0]) or not deals_right(outs, backs, paper[1]):
        return False
    elders = [number for number, out in enumerate(outs) if out[0] < ahead]
    went = sum(outs[number][1] for number in elders)
    lefts = [went - sum(deal[2] for deal in dealing if deal[1] in elders) for dealing in paper[:2]]
    if lefts != [least, greatest] or least != max(0, went - sum(back[1] for back in backs)):
        return False
    if paper[2] is None:
        return greatest == went
    if paper[2] not in range(len(backs)):
        return False
    newer = sum(out[1] for out in outs if ahead <= out[0] <= backs[paper[2]][0])
    return greatest == went - came(backs, paper[2]) + newer


def sum_right(claim, paper):
    word, outs, backs, much = claim
    dealing, times = paper
    amounts = sorted({out[2] for out in outs} - {0})
    if not deals_right(outs, backs, dealing) or len(times) != len(amounts):
        return False
    given = sum(deal[2] * outs[deal[1]][2] for deal in dealing)
    if much != sum(out[1] * out[2] for out in outs) - given:
        return False
    bound = 0
    for ahead, amount, time in zip([0] + amounts, amounts, times):
        if time is not None and time not in range(len(backs)):
            return False
        every = sum(back[1] for back in backs)
        there = [] if time is None else [out for out in outs if out[0] <= backs[time][0]]
        if word == "most":
            count = 0 if time is None else came(backs, time) - sum(out[1] for out in there if out[2] < amount)
        else:
            count = every if time is None else (
                sum(out[1] for out in there if out[2] >= amount) + every - came(backs, time))
        bound += count * (amount - ahead)
    return bound == given


def lying_least(rows, start):
    """The least that there ever is of each kind behind a day, where these kinds lie there at first."""
    least = {}
    lying = {kind[:2]: kind[2] for kind in start}
    for when in sorted({row[0] for row in rows}):
        for then, kinds, comes in rows:
            for house, sort, many in kinds:
                change = many if comes else -many
                if then == when:
                    lying[house, sort] = lying.get((house, sort), 0) + change
        least = {kind: min(lying[kind], least.get(kind, lying[kind])) for kind in lying}
    return least


def start_right(claim, paper):
    word, rows, kinds = claim
    if len(paper) != len(kinds) or not rising([kind[:2] for kind in kinds]):
        return False
    if not all(rising([kind[:2] for kind in row[1]]) for row in rows):
        return False
    for number, (house, sort, many) in zip(paper, kinds):
        if number not in range(len(rows)):
            return False
        done = [row for row in rows if row[0] <= rows[number][0]]
        moves = [(kind[2], row[2]) for row in done for kind in row[1] if kind[:2] == (house, sort)]
        if sum(-moved if comes else moved for moved, comes in moves) != many:
            return False
    return min(lying_least(rows, kinds).values(), default=0) >= 0


def room_right(claim, paper):
    word, stops, room = claim
    if sorted(paper) != list(range(len(stops))):
        return False
    had = [sum(drop for drop, take in stops)]
    for number in paper:
        had.append(had[-1] - stops[number][0] + stops[number][1])
    return max(had) == room and room in (had[0], had[-1])


def balances_right(balances, goings):
    if not rising([house for house, much in balances]) or sum(much for house, much in balances) != 0:
        return False
    houses = {house for house, much in balances} | {house for going in goings for house in going[:2]}
    return all(sum(going[2] for going in goings if going[1] == house)
               - sum(going[2] for going in goings if going[0] == house) == dict(balances).get(house, 0)
               for house in houses)


def evened_right(claim, paper):
    word, balances, moved = claim
    return (balances_right(balances, paper) and moved == sum(going[2] for going in paper)
            and moved == sum(much for house, much in balances if much > 0))


def fewest_right(claim, paper):
    word, balances, many = claim
    if len(balances) > 6 or not balances_right(balances, paper) or many != len(paper):
        return False
    return many == len(balances) - max(len(parting) for parting in partings(list(balances))
                                       if all(sum(much for house, much in group) == 0 for group in parting))


RIGHT = {"dealt": dealt_right, "short": short_right, "elder": elder_right, "most": sum_right, "least": sum_right,
         "start": start_right, "room": room_right, "evened": evened_right, "fewest": fewest_right}


def taken(claim, paper):
    """Whether the document takes the claim with this paper."""
    if type(claim) is not tuple or not claim or type(claim[0]) is not str or claim[0] not in FORMS:
        return False
    parts, form = FORMS[claim[0]]
    if not tuple_of(*parts)(claim[1:]) or not form(paper):
        return False
    if claim[0] in ("dealt", "short", "elder", "most", "least") and not days_right(claim[1], claim[2]):
        return False
    return RIGHT[claim[0]](claim, paper)


def put_otherwise(thing):
    """Things like this one, with one thing put otherwise, at each place."""
    if type(thing) is not tuple:
        yield from leaf_otherwise(thing)
        return
    yield list(thing)
    yield None
    for at in range(len(thing)):
        yield thing[:at] + thing[at + 1:]
        yield thing[:at] + (thing[at],) + thing[at:]
        for other in put_otherwise(thing[at]):
            yield thing[:at] + (other,) + thing[at + 1:]
    for at in range(len(thing) - 1):
        yield thing[:at] + (thing[at + 1], thing[at]) + thing[at + 2:]
    for more in (None, 0, 1, "a", ()):
        yield thing + (more,)


def leaf_otherwise(thing):
    if whole(thing):
        yield from (thing + 1, thing - 1, -thing, -1, 0, 1, None, str(thing), (thing,), [thing], thing + 40, 10 ** 30)
        yield from (True, False)
    elif type(thing) is str:
        yield from (thing + "x", thing[1:], "", thing.upper(), thing.encode(), None, (thing,), 1, "abcdefg", "z")
    elif truth(thing):
        yield from (not thing, int(thing), None, "True")
    else:
        yield from (0, 1, -1, True, False, "None", (), (None,))


def miswritten(thing):
    """Things like this one, with one thing of another kind than the document has it there."""
    if type(thing) is tuple:
        yield list(thing)
        for at in range(len(thing)):
            for other in miswritten(thing[at]):
                yield thing[:at] + (other,) + thing[at + 1:]
    elif whole(thing):
        yield from (bool(thing), str(thing), [thing], (thing,), True, False)
    elif type(thing) is str:
        yield from (thing.encode(), [thing], (thing,), None, 1)
    elif truth(thing):
        yield from (int(thing), None, str(thing))
    else:
        yield from (True, False, "None", ())


def orders(size):
    return itertools.permutations(range(size))

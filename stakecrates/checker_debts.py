"""Claims about goings that even debts: evened and fewest."""

from stakecrates.checker_parts import are_all, is_from, is_name, is_number, is_rising, is_tuple_of

MOST_HOUSES = 6


def is_balance(thing):
    """Whether a thing is a tuple (HOUSE, SUM), SUM not 0."""
    return is_tuple_of(thing, 2) and is_name(thing[0]) and is_number(thing[1]) and thing[1] != 0


def are_balances(thing):
    """Whether a thing is BALANCES, houses rising, together 0."""
    return (are_all(thing, is_balance) and is_rising([house for house, much in thing])
            and sum([much for house, much in thing]) == 0)


def is_going(thing):
    """Whether a thing is a tuple (FROM, TO, SUM)."""
    return is_tuple_of(thing, 3) and is_name(thing[0]) and is_name(thing[1]) and is_from(thing[2], 1)


def evens(balances, goings):
    """Whether by these goings each house is paid less what it pays just its balance."""
    owed = {house: much for house, much in balances}
    for payer, taker, much in goings:
        owed[payer] = owed.get(payer, 0) + much
        owed[taker] = owed.get(taker, 0) - much
    return all([much == 0 for much in owed.values()])


def begins_right(parts, paper):
    """Whether the parts of a claim are BALANCES and a number, and the paper is goings that even them."""
    return (len(parts) == 2 and are_balances(parts[0]) and is_number(parts[1])
            and are_all(paper, is_going) and evens(parts[0], paper))


def takes_evened(parts, paper):
    """Whether BALANCES are evened by MOVED, as little as can be."""
    if not begins_right(parts, paper):
        return False
    balances, moved = parts
    return moved == sum([much for payer, taker, much in paper]) == sum([much for house, much in balances if much > 0])


def most_groups(sums):
    """As many groups as sums that come to 0 can be parted into, each of which comes to 0."""
    # Put one behind another, group by group, the sums come to 0 behind each group. So it is as often as they do so
    # in any order; `most` has this for each choice of sums, told by the bits of its number.
    most = [0]
    for chosen in range(1, 1 << len(sums)):
        places = [at for at in range(len(sums)) if chosen & (1 << at)]
        ends = 1 if sum([sums[at] for at in places]) == 0 else 0
        most.append(ends + max([most[chosen - (1 << at)] for at in places]))
    return most[-1]


def takes_fewest(parts, paper):
    """Whether BALANCES of few houses are evened by MANY goings, and by no fewer."""
    if not begins_right(parts, paper) or len(parts[0]) > MOST_HOUSES:
        return False
    balances, many = parts
    # Goings that join a group of houses are one fewer than these at least.
    return many == len(paper) == len(balances) - most_groups([much for house, much in balances])

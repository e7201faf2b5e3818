"""Goings that even Debts."""

from stakecrates.debts import check_debts
from stakecrates.errors import TooMany

MOST_BALANCES = 6


def goings_of(balances):
    """Goings that even balances which come to 0, one fewer than these at most, each from who owes to who is owed."""
    payers = [(house, -much) for house, much in balances if much < 0]
    takers = [(house, much) for house, much in balances if much > 0]
    goings = []
    while payers:
        payer, owed = payers.pop()
        taker, due = takers.pop()
        paid = min(owed, due)
        goings.append((payer, taker, paid))
        if owed > paid:
            payers.append((payer, owed - paid))
        if due > paid:
            takers.append((taker, due - paid))
    return goings


def evened(debts):
    """Goings that even Debts, by which as little is moved as can be."""
    check_debts(debts)
    return tuple(goings_of(debts.balances()))


def parts_of(balances):
    """All lists of some of the balances, or of none."""
    parts = [[]]
    for balance in balances:
        parts = parts + [part + [balance] for part in parts]
    return parts


def most_groups(balances):
    """As many groups as can be of balances that come to 0, in each of which they do, each balance in one."""
    best = []
    for others in parts_of(balances[1:]):
        group = balances[:1] + others
        if group and sum([much for house, much in group]) == 0:
            groups = [group] + most_groups([balance for balance in balances if balance not in group])
            if len(groups) > len(best):
                best = groups
    return best


def fewest(debts):
    """(GOINGS, GROUPS): as few goings as can be that even Debts, and the groups of houses within which they go."""
    check_debts(debts)
    balances = debts.balances()
    if len(balances) > MOST_BALANCES:
        raise TooMany(len(balances))
    # A group of the most has no lesser group within that comes to 0, so its goings are one fewer than its houses.
    groups = most_groups(list(balances))
    goings = []
    for group in groups:
        goings.extend(goings_of(group))
    return tuple(goings), tuple([tuple([house for house, much in group]) for group in groups])

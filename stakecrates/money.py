"""What is given back by the accounts of a ledger, and what houses owe one another by it."""

from stakecrates.checks import check_day, check_name
from stakecrates.dealings import RANKS
from stakecrates.debts import Debts
from stakecrates.errors import NoRules
from stakecrates.ledgers import PLACES, stands
from stakecrates.names import is_word
from stakecrates.stakes import Stakes
from stakecrates.sums import each_back

BEARERS = ("holder", "origin", "both")


def is_bears(thing):
    """Whether a thing is a tuple of who bears what breaks in a store, and on a cart."""
    return (isinstance(thing, tuple) and len(thing) == len(PLACES)
            and all([is_word(part, BEARERS) for part in thing]))


def is_rules(thing):
    """Whether a thing is a tuple (STAKES, BY, BEARS)."""
    return (isinstance(thing, tuple) and len(thing) == 3
            and isinstance(thing[0], Stakes) and is_word(thing[1], tuple(RANKS)) and is_bears(thing[2]))


def check_rules(rules):
    """Refuse what are no RULES."""
    if not is_rules(rules):
        raise NoRules("not Stakes, a rule of dealing, and who bears what breaks")


def outs_of(stakes, ledger, origin, sort):
    """What went out on each day, with the stake of the day."""
    went = {}
    for day, deed in ledger:
        if deed[0] == "out" and deed[1:3] == (origin, sort):
            went[day] = went.get(day, 0) + deed[3]
    return tuple([(day, went[day], stakes.stake(sort, day)) for day in sorted(went)])


def came_of(ledger, origin, sort):
    """The rising list of (DAY, HOUSE, MANY) of what came back on each day at each house."""
    came = {}
    for day, deed in ledger:
        if deed[0] == "back" and deed[2:4] == (origin, sort):
            came[day, deed[1]] = came.get((day, deed[1]), 0) + deed[4]
    return [(day, house, came[day, house]) for day, house in sorted(came)]


def account_of(rules, ledger, origin, sort):
    """The account of an origin and a sort, of RULES and a LEDGER that need no check."""
    came = came_of(ledger, origin, sort)
    backs = tuple([(day, many) for day, house, many in came])
    return outs_of(rules[0], ledger, origin, sort), backs, tuple([house for day, house, many in came])


def account(rules, ledger, origin, sort):
    """(OUTS, BACKS, HOUSES) of an origin and a sort, a HOUSE for each BACK."""
    check_rules(rules)
    stands(ledger)
    check_name(origin)
    check_name(sort)
    return account_of(rules, ledger, origin, sort)


def given_back(rules, ledger, origin, sort):
    """The sum given back with each BACK of the account of an origin and a sort."""
    outs, backs, houses = account(rules, ledger, origin, sort)
    return each_back(outs, backs, rules[1])


def kinds_out(ledger):
    """All (ORIGIN, SORT) of which bottles went out."""
    return sorted({deed[1:3] for day, deed in ledger if deed[0] == "out"})


def back_debts(rules, ledger, origin, sort, day):
    """(HOUSE, OTHER, SUM) for each BACK up to a day: what was given back for an origin it owes."""
    outs, backs, houses = account_of(rules, ledger, origin, sort)
    given = each_back(outs, backs, rules[1])
    return [(origin, house, much) for back, house, much in zip(backs, houses, given) if back[0] <= day]


def share_of(bearer, worth):
    """How much of the worth of what broke its holder owes."""
    if bearer == "holder":
        return worth
    if bearer == "both":
        return (worth + 1) // 2
    return 0


def entry_debts(rules, day, deed):
    """(HOUSE, OTHER, SUM) of what an entry alone makes a house owe."""
    if deed[0] == "paid":
        return [(deed[2], deed[1], deed[3])]
    if deed[0] == "broken":
        house, origin, sort, many, where = deed[1:]
        bearer = rules[2][PLACES.index(where)]
        return [(house, origin, share_of(bearer, many * rules[0].stake(sort, day)))]
    return []


def debts_on(rules, ledger, day):
    """The Debts of houses to one another behind a day."""
    check_rules(rules)
    stands(ledger)
    check_day(day)
    rows = []
    for origin, sort in kinds_out(ledger):
        rows.extend(back_debts(rules, ledger, origin, sort, day))
    for when, deed in ledger:
        if when <= day:
            rows.extend(entry_debts(rules, when, deed))
    return Debts([(house, other, much) for house, other, much in rows if house != other and much > 0])

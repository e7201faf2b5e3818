"""Ledgers: what houses did with their bottles, day by day."""

from stakecrates.checks import check_day, check_name, check_row
from stakecrates.errors import LacksAt, NoRows, NotOut
from stakecrates.loads import Load, load_of
from stakecrates.names import is_day, is_name, is_row, is_whole, is_word
from stakecrates.stores import in_store, lacks_of

MOST_ENTRIES = 40
MOST_BOTTLES = 999
MOST_PAID = 999999
PLACES = ("store", "cart")


def are_names(things):
    """Whether all of these are names."""
    return all([is_name(thing) for thing in things])


def fits_out(parts):
    """Whether these parts, behind the word, are a name, SORT and MANY."""
    return len(parts) == 3 and are_names(parts[:2]) and is_whole(parts[2], 1, MOST_BOTTLES)


def fits_back(parts):
    """Whether these parts are HOUSE, ORIGIN, SORT and MANY."""
    return len(parts) == 4 and are_names(parts[:3]) and is_whole(parts[3], 1, MOST_BOTTLES)


def fits_home(parts):
    """Whether these parts are as those of a back, the houses unlike."""
    return fits_back(parts) and parts[0] != parts[1]


def fits_broken(parts):
    """Whether these parts are as those of a back, and WHERE."""
    return len(parts) == 5 and fits_back(parts[:4]) and is_word(parts[4], PLACES)


def fits_paid(parts):
    """Whether these parts are HOUSE, OTHER, unlike ones, and SUM."""
    return (len(parts) == 3 and are_names(parts[:2]) and parts[0] != parts[1]
            and is_whole(parts[2], 1, MOST_PAID))


FORMS = {"out": fits_out, "back": fits_back, "home": fits_home, "wash": fits_out, "broken": fits_broken,
         "paid": fits_paid}


def is_deed(thing):
    """Whether a thing is a deed."""
    if not isinstance(thing, tuple) or len(thing) == 0 or not is_word(thing[0], tuple(FORMS)):
        return False
    fits = FORMS[thing[0]]
    return fits(thing[1:])


def is_entry(thing):
    """Whether a thing is a tuple (DAY, DEED)."""
    return isinstance(thing, tuple) and len(thing) == 2 and is_day(thing[0]) and is_deed(thing[1])


def is_ledger(thing):
    """Whether a thing is a row of at most forty entries."""
    return is_row(thing) and len(thing) <= MOST_ENTRIES and all([is_entry(entry) for entry in thing])


def check_entries(ledger):
    """Refuse what is no LEDGER; an entry behind forty is none, whatever it is."""
    check_row(ledger)
    for number, entry in enumerate(ledger):
        if number == MOST_ENTRIES or not is_entry(entry):
            raise NoRows(number)


def street_rows(ledger):
    """What goes out and comes back, as rows of a store: what is out lies in it."""
    rows = []
    for day, deed in ledger:
        if deed[0] == "out":
            rows.append((day, Load([deed[1:]]), True))
        if deed[0] == "back":
            rows.append((day, Load([deed[2:]]), False))
    return rows


def store_moves(deed):
    """(HOUSE, ROW, COMES) for each house into, or from, whose store a deed brings the bottles of this row."""
    if deed[0] == "back":
        return [(deed[1], deed[2:], True)]
    if deed[0] == "home":
        return [(deed[1], deed[2:], False), (deed[2], deed[2:], True)]
    if deed[0] == "wash":
        return [(deed[1], deed[1:], False)]
    if deed[0] == "broken":
        return [(deed[1], deed[2:5], False)]
    return []


def rows_by_house(ledger):
    """The rows of each house's store, by houses."""
    rows = {}
    for day, deed in ledger:
        for house, row, comes in store_moves(deed):
            rows[house] = rows.get(house, []) + [(day, Load([row]), comes)]
    return rows


def first_too_much(ledger):
    """(DAY, ROWS) of the first day by which more came back than went out, with how much more; None without any."""
    lacks = lacks_of(street_rows(ledger), Load())
    return lacks[0] if lacks else None


def first_lack(ledger):
    """(DAY, HOUSE, ROWS) of the first day on which a store lacks, its least such house, and what; None without any."""
    found = None
    rows = rows_by_house(ledger)
    for house in sorted(rows):
        for day, lack in lacks_of(rows[house], Load()):
            if found is None or day < found[0]:
                found = (day, house, lack)
    return found


def stands(ledger):
    """True where a LEDGER stands; else it is refused."""
    check_entries(ledger)
    much = first_too_much(ledger)
    lack = first_lack(ledger)
    if lack is not None and (much is None or lack[0] < much[0]):
        raise LacksAt(lack[0], lack[1], load_of(lack[2]))
    if much is not None:
        raise NotOut(much[0], load_of(much[1]))
    return True


def out_on(ledger, origin, sort, day):
    """How many bottles of an origin and a sort are out behind a day."""
    stands(ledger)
    check_name(origin)
    check_name(sort)
    check_day(day)
    return in_store(street_rows(ledger), day).many_of(origin, sort)


def store_on(ledger, house, day):
    """The Load that lies in a house's store behind a day."""
    stands(ledger)
    check_name(house)
    check_day(day)
    return in_store(rows_by_house(ledger).get(house, []), day)

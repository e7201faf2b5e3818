"""Stores: what lies there behind a day, and what must have lain there at first."""

from stakecrates.checks import check_day, check_rows
from stakecrates.errors import LacksOn
from stakecrates.loads import Load, check_load, lack_of, load_of
from stakecrates.names import is_day


def is_store_row(thing):
    """Whether a thing is a tuple (DAY, LOAD, COMES)."""
    return (isinstance(thing, tuple) and len(thing) == 3
            and is_day(thing[0]) and isinstance(thing[1], Load) and isinstance(thing[2], bool))


def moved(rows, coming):
    """The Load of all that comes by rows of a store, or of all that goes."""
    kinds = []
    for day, load, comes in rows:
        if comes == coming:
            kinds.extend(load.kinds())
    return load_of(kinds)


def up_to(rows, day):
    """The rows of a store up to a day."""
    return [row for row in rows if row[0] <= day]


def lacks_of(rows, start):
    """(DAY, ROWS) of each day up to which more goes than lay there at first and comes, with how much more."""
    lacks = []
    for day in sorted({row[0] for row in rows}):
        done = up_to(rows, day)
        lack = lack_of(start.plus(moved(done, True)), moved(done, False))
        if lack:
            lacks.append((day, lack))
    return lacks


def in_store(rows, day, start=None):
    """The Load that lies in a store behind a day, where nothing lacks up to it."""
    check_rows(rows, is_store_row)
    check_day(day)
    lying = Load() if start is None else start
    check_load(lying)
    done = up_to(rows, day)
    lacks = lacks_of(done, lying)
    if lacks:
        raise LacksOn(lacks[0][0], load_of(lacks[0][1]))
    return lying.plus(moved(done, True)).less(moved(done, False))


def least_start(rows):
    """The least Load that must lie in a store at first so that nothing ever lacks."""
    check_rows(rows, is_store_row)
    most = {}
    for day, lack in lacks_of(rows, Load()):
        for house, sort, many in lack:
            most[house, sort] = max(many, most.get((house, sort), 0))
    return load_of([(house, sort, most[house, sort]) for house, sort in most])

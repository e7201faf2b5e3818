"""Loads: how many bottles of which house and sort."""

from stakecrates.checks import check_day, check_name, check_rows
from stakecrates.errors import Lacks, NoLoad
from stakecrates.lines import NONE, row_lines
from stakecrates.names import is_name, is_row, is_whole
from stakecrates.stakes import check_stakes

MOST_IN_ROW = 99999


def is_load_row(thing):
    """Whether a thing is a tuple (HOUSE, SORT, MANY)."""
    return (isinstance(thing, tuple) and len(thing) == 3
            and is_name(thing[0]) and is_name(thing[1]) and is_whole(thing[2], 0, MOST_IN_ROW))


def together(rows):
    """The rising tuple of (HOUSE, SORT, MANY), rows of one kind counted together, those of none left out."""
    counts = {}
    for house, sort, many in rows:
        counts[house, sort] = counts.get((house, sort), 0) + many
    return tuple([(house, sort, counts[house, sort]) for house, sort in sorted(counts) if counts[house, sort] > 0])


class Load:
    """How many bottles there are of each kind; never changed."""

    def __init__(self, rows=None):
        given = () if rows is None else rows
        check_rows(given, is_load_row)
        self.rows = together(given)

    def many_of(self, house, sort):
        """How many bottles there are of a kind."""
        check_name(house)
        check_name(sort)
        return sum([row[2] for row in self.rows if (row[0], row[1]) == (house, sort)])

    def kinds(self):
        """The rising tuple of (HOUSE, SORT, MANY) of the kinds that are there."""
        return self.rows

    def bottles(self):
        """How many bottles there are in all."""
        return sum([row[2] for row in self.rows])

    def plus(self, other):
        """A new Load of both together."""
        check_load(other)
        return load_of(self.rows + other.rows)

    def less(self, other):
        """A new Load without the other one, which must be within this one."""
        check_load(other)
        lack = lack_of(self, other)
        if lack:
            raise Lacks(load_of(lack))
        return load_of([(house, sort, many - other.many_of(house, sort)) for house, sort, many in self.rows])

    def within(self, other):
        """Whether the other one has as many of each kind, or more."""
        check_load(other)
        return len(lack_of(other, self)) == 0

    def part(self, house=None, sort=None):
        """A new Load of what is of a house, of a sort, or both; None means all."""
        if house is not None:
            check_name(house)
        if sort is not None:
            check_name(sort)
        return load_of([row for row in self.rows if house in (None, row[0]) and sort in (None, row[1])])

    def worth(self, stakes, day):
        """The stakes of all bottles on a day together."""
        check_stakes(stakes)
        check_day(day)
        return sum([many * stakes.stake(sort, day) for house, sort, many in self.rows])

    def __eq__(self, other):
        return isinstance(other, Load) and self.rows == other.rows

    def __len__(self):
        return len(self.rows)

    def __str__(self):
        return "\n".join(row_lines(self.rows) or [NONE])

    def __repr__(self):
        return f"Load({', '.join(row_lines(self.rows))})"


def load_of(rows):
    """A Load of rows that need no check, as they may have more of a kind than a row handed in."""
    load = Load()
    load.rows = together(rows)
    return load


def lack_of(load, other):
    """The rows of what the other one has more than this one."""
    rows = [(house, sort, many - load.many_of(house, sort)) for house, sort, many in other.kinds()]
    return [row for row in rows if row[2] > 0]


def check_load(load):
    """Refuse what is no Load."""
    if not isinstance(load, Load):
        raise NoLoad("not a Load")


def in_order(loads, key=None):
    """The tuple of Loads in the order of their kinds, or of what a key tells of each."""
    if not is_row(loads):
        raise NoLoad("not a row of Loads")
    for load in loads:
        check_load(load)
    if key is None:
        return tuple(sorted(loads, key=lambda one: one.kinds()))
    return tuple(sorted(loads, key=lambda one: key(one)))

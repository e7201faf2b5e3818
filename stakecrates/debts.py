"""Debts: what houses owe one another."""

from stakecrates.checks import check_name, check_rows
from stakecrates.errors import NoDebts
from stakecrates.lines import NONE, row_lines
from stakecrates.names import is_name, is_whole

MOST_IN_ROW = 999999999


def is_debt_row(thing):
    """Whether a thing is a tuple (HOUSE, OTHER, SUM), the houses unlike."""
    return (isinstance(thing, tuple) and len(thing) == 3 and is_name(thing[0]) and is_name(thing[1])
            and thing[0] != thing[1] and is_whole(thing[2], 1, MOST_IN_ROW))


def pairs_of(rows):
    """The rising tuple of (HOUSE, OTHER, SUM), all between two houses come together, what comes to nothing left out."""
    owed = {}
    for house, other, much in rows:
        owed[house, other] = owed.get((house, other), 0) + much
        owed[other, house] = owed.get((other, house), 0) - much
    return tuple([(house, other, owed[house, other]) for house, other in sorted(owed) if owed[house, other] > 0])


def debt_lines(rows):
    """A line for each pair."""
    return row_lines([(house, "owes", other, much) for house, other, much in rows])


class Debts:
    """What each house owes each other one; never changed."""

    def __init__(self, rows=None):
        given = () if rows is None else rows
        check_rows(given, is_debt_row)
        self.rows = pairs_of(given)

    def owes(self, house, other):
        """What a house owes another one, 0 where it owes nothing."""
        check_name(house)
        check_name(other)
        return sum([row[2] for row in self.rows if (row[0], row[1]) == (house, other)])

    def pairs(self):
        """The rising tuple of (HOUSE, OTHER, SUM) of all that is owed."""
        return self.rows

    def balances(self):
        """The rising tuple of (HOUSE, SUM) of those that are owed more than they owe, or, below 0, less."""
        sums = {}
        for house, other, much in self.rows:
            sums[house] = sums.get(house, 0) - much
            sums[other] = sums.get(other, 0) + much
        return tuple([(house, sums[house]) for house in sorted(sums) if sums[house] != 0])

    def plus(self, other):
        """New Debts of both together."""
        check_debts(other)
        both = Debts()
        # Together two houses may owe more than a row handed in can have.
        both.rows = pairs_of(self.rows + other.rows)
        return both

    def __eq__(self, other):
        return isinstance(other, Debts) and self.rows == other.rows

    def __len__(self):
        return len(self.rows)

    def __str__(self):
        return "\n".join(debt_lines(self.rows) or [NONE])

    def __repr__(self):
        return f"Debts({', '.join(debt_lines(self.rows))})"


def check_debts(debts):
    """Refuse what is no Debts."""
    if not isinstance(debts, Debts):
        raise NoDebts("not Debts")

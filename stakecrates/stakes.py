"""Stakes of sorts, and how they change from day to day."""

from stakecrates.checks import check_amount, check_day, check_name, check_row
from stakecrates.errors import NoRows, NoStakes
from stakecrates.lines import NONE, row_lines
from stakecrates.names import is_amount, is_day, is_name


def is_stake_row(thing):
    """Whether a thing is a tuple (SORT, DAY, AMOUNT)."""
    return (isinstance(thing, tuple) and len(thing) == 3
            and is_name(thing[0]) and is_day(thing[1]) and is_amount(thing[2]))


def amounts_of(rows):
    """The amounts of rows by (SORT, DAY), where the rows are as they must be."""
    check_row(rows)
    amounts = {}
    for number, row in enumerate(rows):
        if not is_stake_row(row) or (row[0], row[1]) in amounts:
            raise NoRows(number)
        amounts[row[0], row[1]] = row[2]
    return amounts


def changes_of(amounts):
    """All (SORT, DAY, AMOUNT) that change a stake, by sorts, then days."""
    changes = []
    last = {}
    for sort, day in sorted(amounts):
        amount = amounts[sort, day]
        if amount != last.get(sort, 0):
            changes.append((sort, day, amount))
        last[sort] = amount
    return tuple(changes)


class Stakes:
    """The stake of each sort on each day; never changed."""

    def __init__(self, rows=None):
        # Only changes are kept, so that stakes that are alike are kept alike.
        self.rows = changes_of(amounts_of(() if rows is None else rows))

    def stake(self, sort, day):
        """The stake of a sort on a day."""
        check_name(sort)
        check_day(day)
        amount = 0
        for change in self.changes(sort):
            if change[0] <= day:
                amount = change[1]
        return amount

    def changes(self, sort):
        """The rising tuple of (DAY, AMOUNT) of the days on which the stake of a sort changes."""
        check_name(sort)
        return tuple([(day, amount) for name, day, amount in self.rows if name == sort])

    def sorts(self):
        """The rising tuple of all sorts that have a change."""
        return tuple(sorted({row[0] for row in self.rows}))

    def put(self, sort, day, amount):
        """New Stakes, in which the sort has this stake from this day on to its next change."""
        check_name(sort)
        check_day(day)
        check_amount(amount)
        others = [row for row in self.rows if (row[0], row[1]) != (sort, day)]
        return Stakes(others + [(sort, day, amount)])

    def __eq__(self, other):
        return isinstance(other, Stakes) and self.rows == other.rows

    def __len__(self):
        return len(self.rows)

    def __str__(self):
        return "\n".join(row_lines(self.rows) or [NONE])

    def __repr__(self):
        return f"Stakes({', '.join(row_lines(self.rows))})"


def check_stakes(stakes):
    """Refuse what is no Stakes."""
    if not isinstance(stakes, Stakes):
        raise NoStakes("not Stakes")

"""Yards: RULES, and a LEDGER in which deeds are entered and taken back."""

from stakecrates.checks import check_day
from stakecrates.elders import elder
from stakecrates.errors import NoBack, NoDeed, TooMany
from stakecrates.ledgers import MOST_ENTRIES, is_deed, out_on, stands, store_on
from stakecrates.money import account, check_rules, debts_on, given_back
from stakecrates.sums import sums_out


class Yard:
    """A LEDGER that stands, behind each deed that is entered or taken back, and the RULES by which it is asked."""

    def __init__(self, rules):
        check_rules(rules)
        self.rules = rules
        self.entries = ()

    def enter(self, day, deed):
        """Enter a deed on a day; its number."""
        check_day(day)
        if not is_deed(deed):
            raise NoDeed("not a deed")
        number = len(self.entries)
        if number == MOST_ENTRIES:
            raise TooMany(number)
        entries = self.entries + ((day, deed),)
        stands(entries)
        self.entries = entries
        return number

    def undo(self):
        """Take the last entry back."""
        if not self.entries:
            raise NoBack("no entry to be taken back")
        # What stood ahead of this entry stands without it.
        self.entries = self.entries[:-1]

    def ledger(self):
        """The tuple of (DAY, DEED), in the order of entering."""
        return self.entries

    def out(self, origin, sort, day):
        """How many bottles of an origin and a sort are out behind a day."""
        return out_on(self.entries, origin, sort, day)

    def store(self, house, day):
        """The Load that lies in a house's store behind a day."""
        return store_on(self.entries, house, day)

    def given(self, origin, sort):
        """The sum given back with each BACK of an account."""
        return given_back(self.rules, self.entries, origin, sort)

    def debts(self, day):
        """The Debts of houses to one another behind a day."""
        return debts_on(self.rules, self.entries, day)

    def elder(self, origin, sort, day):
        """(LEAST, GREATEST) of how many of an account that went out ahead of a day are still out."""
        outs, backs, houses = account(self.rules, self.entries, origin, sort)
        return elder(outs, backs, day)

    def sums(self, origin, sort):
        """(LEAST, GREATEST) of the sum of an account that is still out."""
        outs, backs, houses = account(self.rules, self.entries, origin, sort)
        return sums_out(outs, backs)

    def __eq__(self, other):
        return (isinstance(other, Yard) and self.rules == other.rules
                and sorted(self.entries) == sorted(other.entries))

    def __len__(self):
        return len(self.entries)

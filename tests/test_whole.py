"""One story told to a Yard, to a Desk and to the functions; and every function and method asked by name."""

import itertools
import random
import unittest

from stakecrates.checker import holds
from stakecrates.crates import Crate
from stakecrates.dealings import dealt, is_dealing, left, sum_back
from stakecrates.debts import Debts
from stakecrates.desk import Desk
from stakecrates.elders import dealt_to, elder
from stakecrates.evening import evened, fewest
from stakecrates.ledgers import is_deed, is_ledger, out_on, stands, store_on
from stakecrates.loads import Load, in_order
from stakecrates.money import account, debts_on, given_back, is_rules
from stakecrates.names import is_day, is_name
from stakecrates.packing import packed
from stakecrates.papers import (paper_dealt, paper_elder, paper_evened, paper_fewest, paper_least, paper_most,
                                paper_room, paper_start)
from stakecrates.rounds import least_room, need
from stakecrates.stakes import Stakes
from stakecrates.stores import in_store, least_start
from stakecrates.sums import each_back, sums_out
from stakecrates.texts import read_crate, read_load, read_stakes
from stakecrates.yards import Yard
from tests import test_interface, things
from tests.test_ledgers import Told, random_ledger
from tests.test_money import counted_debts, counted_sums

STAKES = Stakes([("x", 0, 10), ("x", 2, 25), ("x", 4, 7), ("y", 1, 15), ("y", 3, 0)])
RULES = (STAKES, "cheap", ("both", "holder"))
NAMES, SORTS, DAYS = "abc", "xy", range(7)
OUTS = [(2, 3, 15), (5, 2, 8), (7, 4, 20)]
BACKS = [(5, 1), (7, 2), (7, 3)]
LEDGER = [(3, ("out", "a", "x", 5)), (5, ("back", "b", "a", "x", 2)), (6, ("home", "b", "a", "x", 1))]
DEBTS = Debts([("a", "b", 5), ("b", "c", 5), ("d", "a", 4)])
LOAD = Load([("a", "x", 3), ("b", "y", 2)])
ROWS = [(4, LOAD, False), (3, Load([("a", "x", 2)]), True)]
STOPS = [(0, 10), (10, 2)]


def row_of(day, deed):
    """The row of a desk that enters this deed."""
    return " ".join(str(part) for part in (day,) + deed)


class StoryTest(things.Refusals, unittest.TestCase):
    """Each entry is told to a Yard and a Desk; both are asked, and the functions, and what is counted here."""

    def setUp(self):
        self.yard, self.desk, self.ledger = Yard(RULES), Desk(RULES), []

    def enter(self, day, deed):
        fault = Told(self.ledger + [(day, deed)]).fault(NAMES, SORTS, DAYS)
        if fault is None:
            self.assertEqual(self.yard.enter(day, deed), len(self.ledger))
            self.assertEqual(self.desk.say(row_of(day, deed)), str(len(self.ledger)))
            self.ledger.append((day, deed))
            return
        for asked, places in ((self.yard.enter, (day, deed)), (self.desk.say, (row_of(day, deed),)),
                              (stands, (self.ledger + [(day, deed)],))):
            wrong = self.refused(fault[0], asked, *places)
            self.assertEqual((wrong.day, getattr(wrong, "house", None)), fault[1:3])
            self.is_alike(wrong.load, fault[3])

    def undo(self):
        self.assertIsNone(self.yard.undo())
        self.assertEqual(self.desk.say("undo"), "ok")
        self.ledger.pop()

    def check(self, days):
        self.assertEqual(self.yard.ledger(), tuple(self.ledger))
        self.assertEqual(self.desk.say("long"), str(len(self.ledger)))
        self.assertEqual(len(self.yard), len(self.ledger))
        told = Told(self.ledger)
        for day in days:
            self.check_day(told, day)
        for origin, sort in itertools.product(NAMES, SORTS):
            self.check_account(origin, sort, days)

    def check_day(self, told, day):
        for house, sort in itertools.product(NAMES, SORTS):
            many = told.out_by(house, sort, day)
            self.assertEqual(self.yard.out(house, sort, day), many)
            self.assertEqual(out_on(self.ledger, house, sort, day), many)
            self.assertEqual(self.desk.say(f"out {house} {sort} {day}"), str(many))
        for house in NAMES:
            lying = Load([kind + (told.stored_by(house, *kind, day),) for kind in itertools.product(NAMES, SORTS)])
            self.is_alike(self.yard.store(house, day), lying)
            self.is_alike(store_on(self.ledger, house, day), lying)
            self.is_alike(read_load(self.desk.say(f"store {house} {day}").replace("; ", "\n")), lying)
        debts = counted_debts_of(self.ledger, day)
        self.is_alike(self.yard.debts(day), debts)
        self.is_alike(debts_on(RULES, self.ledger, day), debts)
        self.assertEqual(self.desk.say(f"debts {day}"), str(debts).replace("\n", "; "))
        self.assertIs(holds(*paper_evened(debts)), True)
        self.assertIs(holds(*paper_fewest(debts)), True)

    def check_account(self, origin, sort, days):
        outs, backs, houses = account(RULES, self.ledger, origin, sort)
        given = counted_sums(outs, backs, RULES[1])
        self.assertEqual(self.yard.given(origin, sort), given)
        self.assertEqual(given_back(RULES, self.ledger, origin, sort), given)
        least, most = self.yard.sums(origin, sort)
        self.assertEqual(sums_out(outs, backs), (least, most))
        self.assertEqual(self.desk.say(f"sums {origin} {sort}"), f"{least} {most}")
        self.taken(paper_least(outs, backs), ("least", outs, backs, least))
        self.taken(paper_most(outs, backs), ("most", outs, backs, most))
        self.taken(paper_dealt(outs, backs), ("dealt", outs, backs))
        # What is out for any dealing is out by the rule, too.
        self.assertTrue(least <= sum(many * amount for day, many, amount in outs) - sum(given) <= most)
        for day in days:
            both = self.yard.elder(origin, sort, day)
            self.assertEqual(elder(outs, backs, day), both)
            self.assertEqual(self.desk.say(f"elder {origin} {sort} {day}"), f"{both[0]} {both[1]}")
            self.taken(paper_elder(outs, backs, day), ("elder", outs, backs, day) + both)

    def taken(self, told, claim):
        self.assertEqual(told[0], claim)
        self.assertIs(holds(told[0], told[1]), True)

    def test_many_entries(self):
        source = random.Random(61)
        for day, deed in random_ledger(source, list(NAMES), list(SORTS), 19):
            self.enter(day, deed)
            if len(self.ledger) > 3 and source.randrange(6) == 0:
                self.undo()
            self.check([source.choice(DAYS)])
        self.assertGreater(len(self.ledger), 15)
        self.check(DAYS)
        again = Yard(RULES)
        ranks = {"out": 0, "back": 1, "home": 2}
        for day, deed in sorted(self.ledger, key=lambda entry: (entry[0], ranks.get(entry[1][0], 3))):
            again.enter(day, deed)
        self.is_alike(again, self.yard)
        while self.ledger:
            self.undo()
        self.check(DAYS)

    def test_a_late_entry_is_as_in_time(self):
        entries = [(1, ("out", "a", "x", 9)), (3, ("back", "b", "a", "x", 4)),
                   (4, ("broken", "b", "a", "x", 1, "store")), (2, ("out", "a", "x", 3)),
                   (2, ("back", "c", "a", "x", 2)), (1, ("paid", "c", "a", 5))]
        orders = [order for order in itertools.permutations(entries) if whole_story(order)]
        self.assertGreater(len(orders), 50)
        for order in orders:
            self.setUp()
            for day, deed in order:
                self.enter(day, deed)
            # At c two come back for 10 each, at b four; half of 7 is rounded up; c paid 5.
            self.assertEqual(self.yard.debts(6).pairs(), (("a", "b", 40 - 4), ("a", "c", 20 + 5)))
            self.assertEqual(self.yard.given("a", "x"), (20, 40))
            self.assertEqual(self.desk.say("sums a x"), "60 105")


def whole_story(entries):
    """Whether no entry is refused where they are entered in this order."""
    return all(Told(entries[:size]).fault(NAMES, SORTS, DAYS) is None for size in range(1, len(entries) + 1))


def counted_debts_of(ledger, day):
    """What is owed by RULES, with accounts that have the stakes of here."""
    owed = []
    for origin, sort in itertools.product(NAMES, SORTS):
        outs, backs, houses = account(RULES, ledger, origin, sort)
        for back, house, much in zip(backs, houses, counted_sums(outs, backs, RULES[1])):
            if back[0] <= day and house != origin and much:
                owed.append((origin, house, much))
    return Debts(owed).plus(counted_debts(RULES, [entry for entry in ledger if entry[1][0] in ("broken", "paid")], day))


def yard_told():
    yard = Yard(RULES)
    for day, deed in LEDGER:
        yard.enter(day, deed)
    return yard


CRATE = Crate(2, 2, [("a", "x"), None, None, ("b", "y")])
# Each function and method with arguments in their order, and what is asked where it isn't a function.
ASKED = [
    (None, is_name, dict(thing="a")), (None, is_day, dict(thing=5)),
    (None, in_order, dict(loads=[LOAD, Load()], key=lambda load: -load.bottles())),
    (None, read_stakes, dict(text="x 3 15")), (None, read_load, dict(text="a x 3")),
    (None, read_crate, dict(text="a/x -")), (None, packed, dict(load=LOAD, wide=2, deep=1, apart=True)),
    (None, is_dealing, dict(outs=OUTS, backs=BACKS, thing=dealt(OUTS, BACKS, "dear"))),
    (None, dealt, dict(outs=OUTS, backs=BACKS, by="dear")),
    (None, sum_back, dict(outs=OUTS, backs=BACKS, dealing=dealt(OUTS, BACKS))),
    (None, left, dict(outs=OUTS, backs=BACKS, dealing=dealt(OUTS, BACKS))),
    (None, elder, dict(outs=OUTS, backs=BACKS, day=7)), (None, dealt_to, dict(outs=OUTS, backs=BACKS, day=7, many=2)),
    (None, sums_out, dict(outs=OUTS, backs=BACKS)), (None, each_back, dict(outs=OUTS, backs=BACKS, by="last")),
    (None, in_store, dict(rows=ROWS, day=4, start=LOAD)), (None, least_start, dict(rows=ROWS)),
    (None, is_deed, dict(thing=LEDGER[0][1])), (None, is_ledger, dict(thing=LEDGER)),
    (None, stands, dict(ledger=LEDGER)), (None, out_on, dict(ledger=LEDGER, origin="a", sort="x", day=5)),
    (None, store_on, dict(ledger=LEDGER, house="b", day=5)), (None, evened, dict(debts=DEBTS)),
    (None, fewest, dict(debts=DEBTS)), (None, is_rules, dict(thing=RULES)),
    (None, account, dict(rules=RULES, ledger=LEDGER, origin="a", sort="x")),
    (None, given_back, dict(rules=RULES, ledger=LEDGER, origin="a", sort="x")),
    (None, debts_on, dict(rules=RULES, ledger=LEDGER, day=5)), (None, need, dict(stops=STOPS)),
    (None, least_room, dict(stops=STOPS)), (None, holds, dict(claim=("room", tuple(STOPS), 12), paper=(1, 0))),
    (None, paper_dealt, dict(outs=OUTS, backs=BACKS)), (None, paper_elder, dict(outs=OUTS, backs=BACKS, day=7)),
    (None, paper_most, dict(outs=OUTS, backs=BACKS)), (None, paper_least, dict(outs=OUTS, backs=BACKS)),
    (None, paper_start, dict(rows=ROWS)), (None, paper_room, dict(stops=STOPS)),
    (None, paper_evened, dict(debts=DEBTS)), (None, paper_fewest, dict(debts=DEBTS)),
    (None, Stakes, dict(rows=[("x", 3, 15)])), (None, Load, dict(rows=[("a", "x", 3)])),
    (None, Crate, dict(wide=2, deep=1, places=[None, ("a", "x")])), (None, Debts, dict(rows=[("a", "b", 3)])),
    (lambda: STAKES, Stakes.stake, dict(sort="x", day=3)), (lambda: STAKES, Stakes.changes, dict(sort="x")),
    (lambda: STAKES, Stakes.sorts, {}), (lambda: STAKES, Stakes.put, dict(sort="x", day=3, amount=4)),
    (lambda: LOAD, Load.many_of, dict(house="a", sort="x")), (lambda: LOAD, Load.kinds, {}),
    (lambda: LOAD, Load.bottles, {}), (lambda: LOAD, Load.plus, dict(other=LOAD)),
    (lambda: LOAD, Load.less, dict(other=LOAD)), (lambda: LOAD, Load.within, dict(other=LOAD)),
    (lambda: LOAD, Load.part, dict(house="a", sort="x")), (lambda: LOAD, Load.worth, dict(stakes=STAKES, day=3)),
    (lambda: CRATE, Crate.places, {}), (lambda: CRATE, Crate.bottle, dict(at=3)),
    (lambda: CRATE, Crate.filled, dict(at=1, house="c", sort="z")), (lambda: CRATE, Crate.emptied, dict(at=0)),
    (lambda: CRATE, Crate.inside, {}), (lambda: CRATE, Crate.short_by, {}), (lambda: CRATE, Crate.turned, {}),
    (lambda: CRATE, Crate.worth, dict(stakes=STAKES, day=3, box=150)),
    (lambda: DEBTS, Debts.owes, dict(house="a", other="b")), (lambda: DEBTS, Debts.pairs, {}),
    (lambda: DEBTS, Debts.balances, {}), (lambda: DEBTS, Debts.plus, dict(other=DEBTS)),
    (yard_told, Yard.enter, dict(day=5, deed=("out", "a", "x", 2))), (yard_told, Yard.undo, {}),
    (yard_told, Yard.ledger, {}), (yard_told, Yard.out, dict(origin="a", sort="x", day=5)),
    (yard_told, Yard.store, dict(house="b", day=5)), (yard_told, Yard.given, dict(origin="a", sort="x")),
    (yard_told, Yard.debts, dict(day=5)), (yard_told, Yard.elder, dict(origin="a", sort="x", day=5)),
    (yard_told, Yard.sums, dict(origin="a", sort="x")), (lambda: Desk(RULES), Desk.say, dict(row="5 out a x 2")),
    (None, lambda rules: Yard(rules).ledger(), dict(rules=RULES)),
    (None, lambda rules: Desk(rules).say("long"), dict(rules=RULES)),
]


class ByNameTest(unittest.TestCase):
    def test_all_are_asked(self):
        asked = {deed.__qualname__ for made, deed, names in ASKED}
        for name, functions in test_interface.FUNCTIONS.items():
            for function in functions:
                self.assertIn(function.partition("(")[0], asked)
        for name, classes in test_interface.CLASSES.items():
            for made, methods in classes.items():
                for method in methods:
                    self.assertIn(made.partition("(")[0] + "." + method.partition("(")[0], asked)

    def test_by_place_and_by_name_in_any_order(self):
        for made, deed, names in ASKED:
            given = repr(names)
            told = repr(self.ask(made, deed, list(names.values()), {}))
            for size in range(len(names) + 1):
                places, rest = list(names.values())[:size], list(names)[size:]
                for order in itertools.permutations(rest):
                    self.assertEqual(repr(self.ask(made, deed, places, {name: names[name] for name in order})), told)
            self.assertEqual(repr(names), given)

    def ask(self, made, deed, places, names):
        return deed(*([made()] if made else []), *places, **names)

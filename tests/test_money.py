import itertools
import random
import unittest

from stakecrates.debts import Debts
from stakecrates.errors import LacksAt, NoDay, NoName, NoRows, NoRules, NotOut
from stakecrates.ledgers import stands
from stakecrates.loads import Load
from stakecrates.money import account, debts_on, given_back, is_rules
from stakecrates.stakes import Stakes
from stakecrates.sums import each_back
from tests import small, things
from tests.test_ledgers import Told, random_ledger

BYS = ("first", "last", "cheap", "dear")
BEARERS = ("holder", "origin", "both")
STAKES = Stakes([("x", 0, 10), ("x", 5, 25), ("x", 8, 7), ("y", 3, 15)])
RULES = (STAKES, "first", ("holder", "both"))
ANYTHING = things.NO_NAMES + things.NAMES
NO_RULES = ANYTHING + [STAKES, [STAKES, "first", ("holder", "both")], (STAKES, "first", ["holder", "both"])]
KEYS = {"first": lambda day, amount: day, "last": lambda day, amount: -day, "cheap": lambda day, amount: amount,
        "dear": lambda day, amount: -amount}

LEDGER = [
    (5, ("out", "a", "x", 4)), (2, ("out", "a", "x", 3)), (5, ("out", "a", "x", 2)), (8, ("out", "a", "x", 1)),
    (4, ("out", "a", "y", 9)), (2, ("out", "b", "x", 9)),
    (6, ("back", "c", "a", "x", 2)), (6, ("back", "b", "a", "x", 1)), (6, ("back", "c", "a", "x", 1)),
    (3, ("back", "a", "a", "x", 1)), (9, ("back", "b", "a", "x", 2)), (6, ("back", "b", "b", "x", 3)),
    (7, ("back", "b", "a", "y", 3)),
]
OUTS = ((2, 3, 10), (5, 6, 25), (8, 1, 7))
BACKS = ((3, 1), (6, 1), (6, 3), (9, 2))
HOUSES = ("a", "b", "c", "b")


def rules_of(by="first", bears=("holder", "both"), stakes=STAKES):
    return stakes, by, bears


class IsRulesTest(unittest.TestCase):
    def test_right_ones(self):
        for by, store, cart in itertools.product(BYS, BEARERS, BEARERS):
            for stakes in (STAKES, Stakes()):
                self.assertIs(is_rules((stakes, by, (store, cart))), True)
                self.assertIs(is_rules(thing=(stakes, by, (store, cart))), True)

    def test_things_of_any_kind(self):
        for thing in NO_RULES:
            self.assertIs(is_rules(thing), False)
            self.assertIs(is_rules((thing, "first", ("holder", "both"))), thing is STAKES)
            self.assertIs(is_rules((STAKES, thing, ("holder", "both"))), False)
            self.assertIs(is_rules((STAKES, "first", thing)), False)
            self.assertIs(is_rules((STAKES, "first", (thing, "both"))), False)
            self.assertIs(is_rules((STAKES, "first", ("holder", thing))), False)

    def test_other_words(self):
        for word in BEARERS + ("First", "firs", "first ", "", "none", "holders", "Both", "store", "cart"):
            self.assertIs(is_rules((STAKES, word, ("holder", "both"))), False)
        for word in BYS + ("Holder", "hold", "both ", "", "none", "store", "cart"):
            self.assertIs(is_rules((STAKES, "first", (word, "both"))), False)
            self.assertIs(is_rules((STAKES, "first", ("holder", word))), False)

    def test_a_part_more_or_less(self):
        bears = ("holder", "both")
        for thing in ((), (STAKES,), (STAKES, "first"), (STAKES, bears), ("first", bears), RULES + (None,),
                      RULES + (bears,), (RULES,), (STAKES, "first", ()), (STAKES, "first", ("holder",)),
                      (STAKES, "first", ("holder", "both", "both")), (STAKES, "first", "holder", "both"),
                      ("first", STAKES, bears), (STAKES, bears, "first"), (Load(), "first", bears),
                      (Stakes, "first", bears), (str(STAKES), "first", bears)):
            self.assertIs(is_rules(thing), False)


class AccountTest(things.Refusals, unittest.TestCase):
    def test_days_and_houses_come_together(self):
        for ledger in (LEDGER, tuple(LEDGER), LEDGER[::-1], sorted(LEDGER)):
            self.assertEqual(account(RULES, ledger, "a", "x"), (OUTS, BACKS, HOUSES))
            self.assertEqual(account(sort="x", origin="a", ledger=ledger, rules=RULES), (OUTS, BACKS, HOUSES))
            self.assertEqual(account(RULES, ledger, "a", "y"), (((4, 9, 15),), ((7, 3),), ("b",)))
            self.assertEqual(account(RULES, ledger, "b", "x"), (((2, 9, 10),), ((6, 3),), ("b",)))

    def test_told_are_tuples(self):
        told = account(RULES, LEDGER, "a", "x")
        self.assertIs(type(told), tuple)
        for part in told:
            self.assertIs(type(part), tuple)
        for row in told[0] + told[1]:
            self.assertIs(type(row), tuple)
        self.assertIs(type(given_back(RULES, LEDGER, "a", "x")), tuple)

    def test_an_origin_or_a_sort_that_has_none(self):
        for origin, sort in (("c", "x"), ("a", "z"), ("x", "a"), ("b", "y")):
            self.assertEqual(account(RULES, LEDGER, origin, sort), ((), (), ()))
            self.assertEqual(given_back(RULES, LEDGER, origin, sort), ())
            self.assertEqual(account(RULES, [], origin, sort), ((), (), ()))
        self.assertEqual(given_back(RULES, (), "a", "x"), ())

    def test_the_stake_of_the_day(self):
        ledger = [(day, ("out", "a", "x", 1)) for day in (9, 0, 8, 4, 7, 5)]
        outs = ((0, 1, 10), (4, 1, 10), (5, 1, 25), (7, 1, 25), (8, 1, 7), (9, 1, 7))
        self.assertEqual(account(RULES, ledger, "a", "x"), (outs, (), ()))
        ledger = [(day, ("out", "a", "y", 2)) for day in (2, 3, 4)]
        self.assertEqual(account(RULES, ledger, "a", "y")[0], ((2, 2, 0), (3, 2, 15), (4, 2, 15)))
        self.assertEqual(account(rules_of(stakes=Stakes()), ledger, "a", "y")[0], ((2, 2, 0), (3, 2, 0), (4, 2, 0)))

    def test_other_deeds_are_none_of_it(self):
        more = [(6, ("home", "c", "a", "x", 3)), (7, ("wash", "a", "x", 2)), (7, ("broken", "a", "a", "x", 1, "store")),
                (7, ("paid", "a", "x", 5))]
        self.assertEqual(account(RULES, LEDGER + more, "a", "x"), (OUTS, BACKS, HOUSES))

    def test_given_back_by_each_word(self):
        told = {"first": (10, 10, 10 + 2 * 25, 2 * 25), "last": (10, 25, 3 * 25, 7 + 25),
                "cheap": (10, 10, 10 + 2 * 25, 7 + 25), "dear": (10, 25, 3 * 25, 2 * 25)}
        for by in BYS:
            for ledger in (LEDGER, tuple(LEDGER[::-1])):
                self.assertEqual(given_back(rules_of(by), ledger, "a", "x"), told[by])
                self.assertEqual(given_back(sort="x", origin="a", ledger=ledger, rules=rules_of(by)), told[by])
                self.assertEqual(given_back(rules_of(by), ledger, "a", "y"), (45,))

    def test_as_many_as_can_be(self):
        ledger = [(1, ("out", "a", "x", 999))] * 20 + [(1, ("back", "a", "a", "x", 999))] * 20
        stakes = Stakes([("x", 0, 9999)])
        self.assertEqual(account(rules_of(stakes=stakes), ledger, "a", "x"),
                         (((1, 19980, 9999),), ((1, 19980),), ("a",)))
        self.assertEqual(given_back(rules_of(stakes=stakes), ledger, "a", "x"), (19980 * 9999,))

    def test_random_ones(self):
        for ledger in standing_ledgers(21, 60):
            for by, origin, sort in itertools.product(BYS, "abc", "xy"):
                rules = rules_of(by)
                told = account(rules, ledger, origin, sort)
                self.assertEqual(told, counted_account(ledger, origin, sort))
                given = given_back(rules, ledger, origin, sort)
                self.assertEqual(given, each_back(told[0], told[1], by))
                self.assertEqual(given, counted_sums(told[0], told[1], by))


def standing_ledgers(seed, many):
    """Ledgers of random entries, as many of each as stand."""
    source = random.Random(seed)
    for turn in range(many):
        ledger = []
        for entry in random_ledger(source, ["a", "b", "c"], ["x", "y"], 16):
            if len(ledger) < 40 and Told(ledger + [entry]).fault("abc", "xy", range(6)) is None:
                ledger.append(entry)
        source.shuffle(ledger)
        yield ledger


def counted_account(ledger, origin, sort):
    outs, backs, houses = [], [], []
    for day in range(10):
        many = sum(deed[3] for when, deed in ledger if when == day and deed[:3] == ("out", origin, sort))
        if many:
            outs.append((day, many, STAKES.stake(sort, day)))
        for house in "abc":
            many = sum(deed[4] for when, deed in ledger if when == day and deed[:4] == ("back", house, origin, sort))
            if many:
                backs.append((day, many))
                houses.append(house)
    return tuple(outs), tuple(backs), tuple(houses)


def counted_sums(outs, backs, by):
    dealing = small.bottle_by_bottle(outs, backs, KEYS[by])
    return tuple(sum(many * outs[out][2] for back, out, many in dealing if back == number)
                 for number in range(len(backs)))


def counted_debts(rules, ledger, day):
    """What each house owes each other, counted apart from the program."""
    owed = dict.fromkeys(itertools.permutations("abc", 2), 0)
    for origin, sort in itertools.product("abc", "xy"):
        outs, backs, houses = counted_account(ledger, origin, sort)
        for back, house, much in zip(backs, houses, counted_sums(outs, backs, rules[1])):
            if back[0] <= day and house != origin:
                owed[origin, house] += much
    for when, deed in ledger:
        if when <= day and deed[0] == "paid":
            owed[deed[2], deed[1]] += deed[3]
        if when <= day and deed[0] == "broken" and deed[1] != deed[2]:
            worth = deed[4] * rules[0].stake(deed[3], when)
            word = rules[2][0] if deed[5] == "store" else rules[2][1]
            owed[deed[1], deed[2]] += {"holder": worth, "origin": 0, "both": worth // 2 + worth % 2}[word]
    return Debts([pair + (much,) for pair, much in owed.items() if much])


class DebtsOnTest(things.Refusals, unittest.TestCase):
    def check(self, told, rules, ledger, day):
        for order in (ledger, tuple(ledger), ledger[::-1], sorted(ledger)):
            self.is_alike(debts_on(rules, order, day), Debts(told))
            self.is_alike(debts_on(day=day, ledger=order, rules=rules), Debts(told))
        self.assertIs(type(debts_on(rules, ledger, day)), Debts)

    def test_backs_at_the_own_house_and_at_others(self):
        ledger = [(1, ("out", "a", "x", 9)), (2, ("back", "a", "a", "x", 2)), (3, ("back", "b", "a", "x", 3)),
                  (4, ("back", "c", "a", "x", 1)), (4, ("back", "b", "a", "x", 1))]
        for day, told in ((0, []), (1, []), (2, []), (3, [("a", "b", 30)]), (4, [("a", "b", 40), ("a", "c", 10)]),
                          (5, [("a", "b", 40), ("a", "c", 10)]), (9999, [("a", "b", 40), ("a", "c", 10)])):
            self.check(told, RULES, ledger, day)

    def test_backs_by_each_word(self):
        told = {"first": (10 + 50, 60), "last": (25 + 32, 75), "cheap": (10 + 32, 60), "dear": (25 + 50, 75)}
        for by in BYS:
            to_b, to_c = told[by]
            self.check([("a", "b", to_b + 45), ("a", "c", to_c)], rules_of(by), LEDGER, 9)

    def test_what_comes_back_later_changes_nothing(self):
        for by in BYS:
            for day in range(11):
                ledger = [entry for entry in LEDGER if entry[0] <= day]
                self.is_alike(debts_on(rules_of(by), LEDGER, day), debts_on(rules_of(by), ledger, 9999))

    def broken(self, *deeds):
        """A ledger with what breaks on day 6, at a stake of 25."""
        return [(1, ("out", "a", "x", 20)), (2, ("back", "a", "a", "x", 9)), (1, ("out", "b", "x", 20)),
                (2, ("back", "b", "b", "x", 9)), (2, ("back", "b", "a", "x", 9))] + [(6, deed) for deed in deeds]

    def test_broken_by_each_word(self):
        given = ("a", "b", 90)
        for bears in itertools.product(BEARERS, repeat=2):
            for place, where in enumerate(("store", "cart")):
                owed = {"holder": 75, "origin": 0, "both": 38}[bears[place]]
                ledger = self.broken(("broken", "b", "a", "x", 3, where))
                told = [given, ("b", "a", owed)] if owed else [given]
                self.check(told, rules_of(bears=bears), ledger, 6)
                self.check(told, rules_of(bears=bears), ledger, 7)
                self.check([given], rules_of(bears=bears), ledger, 5)

    def test_own_bottles_that_break(self):
        for bears in itertools.product(BEARERS, repeat=2):
            ledger = self.broken(("broken", "b", "b", "x", 3, "store"), ("broken", "a", "a", "x", 3, "cart"))
            self.check([("a", "b", 90)], rules_of(bears=bears), ledger, 9)

    def test_half_of_each_entry_is_rounded_up(self):
        one = ("broken", "b", "a", "x", 1, "store")
        for deeds, owed in (([one], 13), ([one, one], 26), ([one, one, one], 39),
                            ([("broken", "b", "a", "x", 2, "store")], 25),
                            ([("broken", "b", "a", "x", 3, "store")], 38),
                            ([one, ("broken", "b", "a", "x", 2, "store")], 38),
                            ([one, ("broken", "b", "a", "x", 1, "cart")], 26)):
            self.check([("a", "b", 90), ("b", "a", owed)], rules_of(bears=("both", "both")), self.broken(*deeds), 6)

    def test_the_stake_of_the_day_on_which_it_breaks(self):
        for day, owed in ((2, 10), (4, 10), (5, 25), (7, 25), (8, 7), (9, 7)):
            ledger = self.broken() + [(day, ("broken", "b", "a", "x", 1, "cart"))]
            self.check([("a", "b", 90), ("b", "a", owed)], rules_of(bears=("origin", "holder")), ledger, 9)

    def test_worth_nothing(self):
        for bears in itertools.product(BEARERS, repeat=2):
            ledger = self.broken(("broken", "b", "a", "x", 3, "store"), ("broken", "b", "a", "x", 1, "cart"))
            self.check([], rules_of(bears=bears, stakes=Stakes()), ledger, 9)

    def test_paid_both_ways(self):
        ledger = [(3, ("paid", "a", "b", 10)), (4, ("paid", "b", "a", 4)), (5, ("paid", "b", "a", 6)),
                  (6, ("paid", "b", "a", 5)), (6, ("paid", "a", "c", 999999))]
        for day, told in ((2, []), (3, [("b", "a", 10)]), (4, [("b", "a", 6)]), (5, []),
                          (6, [("a", "b", 5), ("c", "a", 999999)]), (7, [("a", "b", 5), ("c", "a", 999999)])):
            self.check(told, RULES, ledger, day)

    def test_what_is_owed_is_paid(self):
        ledger = [(1, ("out", "a", "x", 9)), (2, ("back", "b", "a", "x", 3)), (3, ("paid", "a", "b", 30))]
        self.check([("a", "b", 30)], RULES, ledger, 2)
        self.check([], RULES, ledger, 3)

    def test_other_deeds_and_none(self):
        for day in (0, 5, 9999):
            self.check([], RULES, [], day)
        ledger = self.broken(("home", "b", "a", "x", 2), ("wash", "a", "x", 5), ("out", "c", "x", 5))
        self.check([("a", "b", 90)], RULES, ledger, 9)

    def test_late_entries_are_as_in_time(self):
        ledger = LEDGER + [(7, ("broken", "b", "a", "y", 1, "cart"))]
        for entry in ((6, ("back", "c", "a", "x", 1)), (1, ("out", "a", "x", 1)), (7, ("paid", "b", "a", 3)),
                      (8, ("broken", "c", "a", "x", 1, "store"))):
            in_time = sorted(ledger + [entry])
            for by, day in itertools.product(BYS, range(11)):
                rules = rules_of(by, ("both", "both"))
                self.is_alike(debts_on(rules, ledger + [entry], day), debts_on(rules, in_time, day))
                self.assertEqual(given_back(rules, ledger + [entry], "a", "x"), given_back(rules, in_time, "a", "x"))

    def test_random_ones(self):
        choices = itertools.cycle(itertools.product(BYS, itertools.product(BEARERS, repeat=2)))
        for ledger in standing_ledgers(22, 72):
            by, bears = next(choices)
            rules = rules_of(by, bears)
            for day in range(7):
                self.is_alike(debts_on(rules, ledger, day), counted_debts(rules, ledger, day))


ALL = [(account, ["a", "x"]), (given_back, ["a", "x"]), (debts_on, [5])]
WRONG = [(account, [1, 2]), (given_back, [1, 2]), (debts_on, [-1])]


class RefusalsTest(things.Refusals, unittest.TestCase):
    def test_no_rules_first(self):
        for thing in NO_RULES:
            for deed, right in ALL:
                self.refused(NoRules, deed, thing, LEDGER, *right)
            for deed, wrong in WRONG:
                self.refused(NoRules, deed, thing, None, *wrong)
        bad = (5, ("back", "b", "a", "x", 1))
        self.refused(NoRules, account, sort=None, origin=None, ledger=[bad], rules=None)
        self.refused(NoRules, given_back, sort=None, origin=None, ledger=[bad], rules=None)
        self.refused(NoRules, debts_on, day=None, ledger=[bad], rules=None)

    def test_then_no_rows(self):
        for deed, more in ALL + WRONG:
            for thing in [None] + things.NO_ROWS:
                self.refused_with(NoRows, "number", None, deed, RULES, thing, *more)
            for entry in ANYTHING + [[1, ("out", "a", "x", 1)], (1, ("out", "a", "x", 0))]:
                self.refused_with(NoRows, "number", 1, deed, RULES, [(1, ("wash", "a", "x", 1)), entry], *more)
            self.refused_with(NoRows, "number", 40, deed, RULES, [(1, ("paid", "a", "b", 1))] * 41, *more)

    def test_then_as_it_does_not_stand(self):
        for deed, more in ALL + WRONG:
            wrong = self.refused(NotOut, deed, RULES, [(9, ("back", "b", "a", "x", 2))], *more)
            self.assertEqual((wrong.day, wrong.load.kinds()), (9, (("a", "x", 2),)))
            wrong = self.refused(LacksAt, deed, RULES, [(9, ("home", "b", "a", "x", 2))], *more)
            self.assertEqual((wrong.day, wrong.house, wrong.load.kinds()), (9, "b", (("a", "x", 2),)))

    def test_then_names_and_days(self):
        for thing in things.NO_NAMES:
            for deed in (account, given_back):
                self.refused_with(NoName, "name", thing, deed, RULES, LEDGER, thing, 1)
                self.refused_with(NoName, "name", thing, deed, RULES, LEDGER, "a", thing)
                self.refused_with(NoName, "name", thing, deed, sort=1, origin=thing, ledger=[], rules=RULES)
        for thing in things.NO_DAYS:
            self.refused_with(NoDay, "day", thing, debts_on, RULES, LEDGER, thing)
            self.refused_with(NoDay, "day", thing, debts_on, day=thing, ledger=(), rules=RULES)


class HandedInTest(things.Refusals, unittest.TestCase):
    def test_lists_stay_and_are_not_kept(self):
        ledger = list(LEDGER)
        told = [account(RULES, ledger, "a", "x"), given_back(RULES, ledger, "a", "x"), debts_on(RULES, ledger, 9)]
        self.assertEqual(ledger, LEDGER)
        self.assertIs(stands(ledger), True)
        again = repr(told)
        ledger[0] = (1, ("out", "a", "x", 9))
        ledger.clear()
        self.assertEqual(repr(told), again)
        self.assertEqual(str(STAKES), "x 0 10\nx 5 25\nx 8 7\ny 3 15")

    def test_what_was_told_may_be_handed_in(self):
        outs, backs, houses = account(RULES, LEDGER, "a", "x")
        self.assertEqual(each_back(outs, backs, "first"), given_back(RULES, LEDGER, "a", "x"))
        debts = debts_on(RULES, LEDGER, 9)
        self.is_alike(Debts(debts.pairs()), debts)

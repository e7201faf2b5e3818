import itertools
import random
import unittest

from stakecrates.debts import Debts
from stakecrates.errors import NoDebts, TooMany
from stakecrates.evening import evened, fewest
from stakecrates.loads import Load
from tests import things

NO_DEBTS = things.NO_NAMES + things.NAMES + [Load(), Debts, (("a", "b", 5),), "a owes b 5"]
NAMES = "abcdefghijklmnopqrstuvwxyz"


def debts_of(sums):
    """Debts with these balances, of houses a, b and so on, by way of a house that has none."""
    rows = [("zz", name, much) if much > 0 else (name, "zz", -much) for name, much in zip(NAMES, sums) if much]
    return Debts(rows)


def partings(things_there):
    """All partings of a list into groups."""
    if not things_there:
        yield []
        return
    first = things_there[0]
    for parting in partings(things_there[1:]):
        yield [[first]] + parting
        for at in range(len(parting)):
            yield parting[:at] + [[first] + parting[at]] + parting[at + 1:]


def most_groups(balances):
    return max(len(parting) for parting in partings(list(balances))
               if all(sum(much for house, much in group) == 0 for group in parting))


def small_sums():
    """Balances of up to six houses that come to 0."""
    for sums in itertools.product(range(-3, 4), repeat=3):
        yield sums + (-sum(sums),)
    source = random.Random(9)
    for turn in range(400):
        sums = [source.randrange(-5, 6) for one in range(source.randrange(6))]
        yield tuple(sums) + (-sum(sums),)
    yield from itertools.permutations((5, -5, 7, -3, -4))
    yield from itertools.permutations((3, -3, 8, -8, 1, -1))
    yield (10, -1, -2, -3, -4, 0)
    yield (999999999, -999999999, 1, -1, 5, -5)


class Goings(things.Refusals):
    def check_goings(self, balances, goings):
        self.assertIs(type(goings), tuple)
        moved = dict.fromkeys([house for house, much in balances], 0)
        for going in goings:
            self.assertIs(type(going), tuple)
            payer, taker, much = going
            self.assertNotEqual(payer, taker)
            self.assertIs(type(much), int)
            self.assertGreaterEqual(much, 1)
            moved[payer] -= much
            moved[taker] += much
        self.assertEqual(moved, dict(balances))
        self.assertEqual(sum(going[2] for going in goings), sum(much for house, much in balances if much > 0))


class EvenedTest(Goings, unittest.TestCase):
    def check(self, debts):
        goings = evened(debts)
        self.check_goings(debts.balances(), goings)
        self.assertLessEqual(len(goings), max(0, len(debts.balances()) - 1))
        self.assertEqual(goings, evened(Debts(debts.pairs()[::-1])))

    def test_two_houses(self):
        self.assertEqual(evened(Debts([("a", "b", 5)])), (("a", "b", 5),))
        self.assertEqual(evened(debts=Debts([("b", "a", 5), ("a", "b", 2)])), (("b", "a", 3),))

    def test_none(self):
        self.assertEqual(evened(Debts()), ())
        self.assertEqual(evened(Debts([("a", "b", 4), ("b", "c", 4), ("c", "a", 4)])), ())

    def test_through_a_house_without_balance(self):
        self.assertEqual(evened(Debts([("a", "b", 4), ("b", "c", 4)])), (("a", "c", 4),))

    def test_small_ones(self):
        for sums in small_sums():
            self.check(debts_of(sums))

    def test_many_houses(self):
        source = random.Random(2)
        for turn in range(100):
            rows = [tuple(source.sample(NAMES, 2)) + (source.randrange(1, 9999999),) for one in range(40)]
            self.check(Debts(rows))

    def test_alike_debts(self):
        rows = [("a", "b", 5), ("c", "d", 2), ("e", "a", 1), ("b", "e", 2)]
        told = evened(Debts(rows))
        for order in itertools.permutations(rows):
            self.assertEqual(evened(Debts(order)), told)
        self.assertEqual(evened(Debts(rows + [("x", "y", 1), ("y", "x", 1)])), told)

    def test_no_debts(self):
        for thing in NO_DEBTS:
            self.refused(NoDebts, evened, thing)
            self.refused(NoDebts, evened, debts=thing)


class FewestTest(Goings, unittest.TestCase):
    def check(self, debts):
        balances = debts.balances()
        told = fewest(debts)
        self.assertIs(type(told), tuple)
        goings, groups = told
        self.check_goings(balances, goings)
        self.check_groups(dict(balances), groups)
        self.assertEqual(len(groups), most_groups(balances))
        self.assertEqual(len(goings), len(balances) - len(groups))
        for payer, taker, much in goings:
            self.assertTrue(any(payer in group and taker in group for group in groups))

    def check_groups(self, balances, groups):
        self.assertIs(type(groups), tuple)
        for group in groups:
            self.assertIs(type(group), tuple)
            self.assertTrue(group)
            self.assertEqual(sum(balances[house] for house in group), 0)
        self.assertEqual(sorted(house for group in groups for house in group), sorted(balances))

    def test_none(self):
        self.assertEqual(fewest(Debts()), ((), ()))
        self.assertEqual(fewest(Debts([("a", "b", 4), ("b", "c", 4), ("c", "a", 4)])), ((), ()))

    def test_told(self):
        goings, groups = fewest(Debts([("a", "b", 5)]))
        self.assertEqual((goings, [sorted(group) for group in groups]), ((("a", "b", 5),), [["a", "b"]]))
        goings, groups = fewest(debts=debts_of((3, 8, -3, 1, -1, -8)))
        self.assertEqual(sorted(goings), [("c", "a", 3), ("e", "d", 1), ("f", "b", 8)])
        self.assertEqual(sorted(sorted(group) for group in groups), [["a", "c"], ["b", "f"], ["d", "e"]])
        goings, groups = fewest(debts_of((10, -1, -2, -3, -4)))
        self.assertEqual(sorted(goings), [("b", "a", 1), ("c", "a", 2), ("d", "a", 3), ("e", "a", 4)])
        self.assertEqual(sorted(groups[0]), ["a", "b", "c", "d", "e"])

    def test_small_ones(self):
        for sums in small_sums():
            self.check(debts_of(sums))

    def test_great_sums(self):
        big = Debts([("a", "b", 999999999), ("c", "d", 999999999), ("e", "f", 1)])
        self.check(big.plus(big).plus(big))

    def test_fewer_than_two_groups_never_hide_a_third(self):
        for sums in itertools.permutations((1, 1, 1, -1, -1, -1)):
            self.assertEqual(len(fewest(debts_of(sums))[0]), 3)
        for sums in itertools.permutations((4, -1, -3, 6, -2, -4)):
            self.assertEqual(len(fewest(debts_of(sums))[1]), 2)

    def test_alike_debts_and_told_things(self):
        one = Debts([("a", "b", 5), ("c", "d", 2)])
        self.assertEqual(fewest(one), fewest(Debts([("c", "d", 2), ("a", "b", 7), ("b", "a", 2)])))
        self.assertEqual(repr(one), "Debts(a owes b 5, c owes d 2)")

    def test_no_debts(self):
        for thing in NO_DEBTS:
            self.refused(NoDebts, fewest, thing)
            self.refused(NoDebts, fewest, debts=thing)

    def test_too_many(self):
        for many in (7, 8, 12, 26):
            debts = debts_of([1] * (many - 1) + [1 - many])
            self.assertEqual(len(debts.balances()), many)
            self.refused_with(TooMany, "many", many, fewest, debts)
        self.check(debts_of([1] * 5 + [-5]))

    def test_houses_without_balance_do_not_count(self):
        rows = [(name, "zz", 1) for name in "abcdefgh"] + [("zz", name, 1) for name in "cdefgh"]
        chain = Debts(rows).plus(Debts([("m", "n", 3), ("n", "o", 3), ("o", "p", 3)]))
        self.assertEqual(len(chain.balances()), 5)
        self.check(chain)

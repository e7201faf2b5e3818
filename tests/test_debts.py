import itertools
import random
import unittest

from stakecrates.debts import Debts
from stakecrates.errors import NoDebts, NoName, NoRows
from stakecrates.loads import Load
from stakecrates.stakes import Stakes
from tests import things

NO_SUMS = things.NO_WHOLES + [0, -1, -2, 1000000000, 1000000001, 123456789012, 10 ** 5000]
NO_DEBTS = things.NO_NAMES + things.NAMES + [Load(), Stakes(), Debts, (("a", "b", 5),), "a owes b 5", "none"]
HOUSES = ["a", "b", "c", "d"]


def owed(rows, house, other):
    """What a house owes another one by rows, be it below 0."""
    return sum(row[2] for row in rows if row[:2] == (house, other)) - sum(
        row[2] for row in rows if row[:2] == (other, house))


def random_rows(source, many):
    return [tuple(source.sample(HOUSES, 2)) + (source.randrange(1, 5),) for one in range(many)]


class DebtsTest(things.Refusals, unittest.TestCase):
    def test_none(self):
        for none in (Debts(), Debts(None), Debts([]), Debts(()), Debts(rows=None),
                     Debts([("a", "b", 5), ("b", "a", 5)]), Debts([("b", "a", 3), ("a", "b", 1), ("a", "b", 2)])):
            self.assertEqual(none.owes("a", "b"), 0)
            self.assertEqual(none.pairs(), ())
            self.assertEqual(none.balances(), ())
            self.assertEqual(len(none), 0)
            self.assertIs(bool(none), False)
            self.assertEqual(str(none), "none")
            self.assertEqual(repr(none), "Debts()")
            self.is_alike(none, Debts())

    def test_told(self):
        rows = [("a", "b", 3), ("c", "a", 2), ("b", "a", 1), ("a", "b", 3), ("d", "c", 4), ("c", "d", 4)]
        for order in itertools.permutations(rows):
            for debts in (Debts(order), Debts(list(order)), Debts(rows=order)):
                self.assertEqual(debts.pairs(), (("a", "b", 5), ("c", "a", 2)))
                self.assertEqual(debts.balances(), (("a", -3), ("b", 5), ("c", -2)))
        self.assertEqual([debts.owes(*pair) for pair in (("a", "b"), ("b", "a"), ("c", "a"), ("a", "c"), ("c", "d"),
                                                         ("x", "y"), ("a", "a"))], [5, 0, 2, 0, 0, 0, 0])
        self.assertEqual(debts.owes(other="a", house="c"), 2)
        self.assertEqual(len(debts), 2)
        self.assertIs(bool(debts), True)
        self.assertEqual(str(debts), "a owes b 5\nc owes a 2")
        self.assertEqual(repr(debts), "Debts(a owes b 5, c owes a 2)")

    def test_pairs_rise_by_house_then_other(self):
        debts = Debts([("b", "a", 1), ("aa", "z", 9), ("a", "z", 8), ("a", "b", 2)])
        self.assertEqual(debts.pairs(), (("a", "b", 1), ("a", "z", 8), ("aa", "z", 9)))
        debts = Debts([("z", "aa", 9), ("z", "a", 8), ("b", "a", 1), ("c", "a", 7)])
        self.assertEqual(debts.pairs(), (("b", "a", 1), ("c", "a", 7), ("z", "a", 8), ("z", "aa", 9)))
        self.assertEqual(debts.balances(), (("a", 16), ("aa", 9), ("b", -1), ("c", -7), ("z", -17)))
        self.assertIs(type(debts.pairs()), tuple)
        self.assertIs(type(debts.pairs()[0]), tuple)
        self.assertIs(type(debts.balances()), tuple)
        self.assertIs(type(debts.balances()[0]), tuple)

    def test_round_about_there_is_no_balance(self):
        debts = Debts([("a", "b", 4), ("b", "c", 4), ("c", "a", 4), ("d", "a", 1)])
        self.assertEqual(len(debts), 4)
        self.assertEqual(debts.balances(), (("a", 1), ("d", -1)))

    def test_bounds_of_sums(self):
        debts = Debts([("a", "b", 1), ("b", "c", 999999999), ("b", "c", 999999999)])
        self.assertEqual(debts.pairs(), (("a", "b", 1), ("b", "c", 1999999998)))
        self.assertEqual(str(debts), "a owes b 1\nb owes c 1999999998")

    def test_random_ones(self):
        source = random.Random(3)
        for turn in range(300):
            rows = random_rows(source, turn // 20)
            debts = Debts(rows)
            both = [(house, other, owed(rows, house, other)) for house in HOUSES for other in HOUSES]
            self.assertEqual(debts.pairs(), tuple(row for row in both if row[2] > 0))
            for house, other, much in both:
                self.assertEqual(debts.owes(house, other), max(0, much))
            sums = [(house, -sum(owed(rows, house, other) for other in HOUSES)) for house in HOUSES]
            self.assertEqual(debts.balances(), tuple(row for row in sums if row[1] != 0))


class LikenessTest(things.Refusals, unittest.TestCase):
    def test_alike(self):
        one = Debts([("a", "b", 5), ("c", "a", 2)])
        self.is_alike(one, one)
        self.is_alike(one, Debts((("c", "a", 3), ("b", "a", 1), ("a", "b", 6), ("a", "c", 1))))
        self.is_alike(one, Debts(one.pairs()))
        self.is_alike(one, Debts([("a", "b", 5)]).plus(Debts([("c", "a", 2)])))

    def test_unlike(self):
        one = Debts([("a", "b", 5)])
        for rows in ([], [("a", "b", 4)], [("b", "a", 5)], [("a", "c", 5)], [("c", "b", 5)],
                     [("a", "b", 5), ("c", "d", 1)], [("a", "c", 5), ("c", "b", 5)]):
            self.is_unlike(one, Debts(rows))
            self.is_unlike(Debts(rows), one)
            self.assertFalse(one in [Debts(rows)])

    def test_unlike_to_other_things(self):
        for debts in (Debts(), Debts([("a", "b", 5)])):
            for thing in NO_DEBTS:
                self.is_unlike(debts, thing)
        self.is_unlike(Load(), Debts())
        self.is_unlike(Stakes(), Debts())


class PlusTest(things.Refusals, unittest.TestCase):
    def test_plus(self):
        source = random.Random(4)
        for turn in range(200):
            rows, others = random_rows(source, turn // 20), random_rows(source, turn // 25)
            one, other = Debts(rows), Debts(others)
            kept = repr(one), repr(other)
            self.is_alike(one.plus(other), Debts(rows + others))
            self.is_alike(other.plus(other=one), Debts(rows + others))
            self.assertIs(type(one.plus(other)), Debts)
            self.assertEqual((repr(one), repr(other)), kept)

    def test_more_than_a_row_may_have(self):
        big = Debts([("a", "b", 999999999)])
        more = big.plus(big).plus(big)
        self.assertEqual(more.pairs(), (("a", "b", 2999999997),))
        self.assertEqual(more.balances(), (("a", -2999999997), ("b", 2999999997)))
        self.is_alike(more.plus(Debts([("b", "a", 999999999)] * 3)), Debts())

    def test_no_debts(self):
        for thing in NO_DEBTS:
            self.refused(NoDebts, Debts().plus, thing)
            self.refused(NoDebts, Debts([("a", "b", 5)]).plus, other=thing)


class RefusalsTest(things.Refusals, unittest.TestCase):
    def test_what_is_no_row(self):
        for thing in things.NO_ROWS + [Debts(), Load()]:
            self.refused_with(NoRows, "number", None, Debts, thing)
            self.refused_with(NoRows, "number", None, Debts, rows=thing)

    def test_wrong_rows(self):
        wrong = [None] + things.NO_ROWS + things.ROWS + [["a", "b", 1], ("a", "b"), ("a", "b", 1, 1), ("ab", 1),
                                                         ("a", "a", 1), ("zzzzzz", "zzzzzz", 1)]
        wrong += [(thing, "b", 1) for thing in things.NO_NAMES]
        wrong += [("a", thing, 1) for thing in things.NO_NAMES]
        wrong += [("a", "b", thing) for thing in NO_SUMS]
        for row in wrong:
            self.refused_with(NoRows, "number", 0, Debts, [row])
            self.refused_with(NoRows, "number", 2, Debts, (("a", "b", 1), ("b", "a", 999999999), row, None))

    def test_more_that_was_told(self):
        told = Debts([("a", "b", 999999999), ("a", "b", 1)]).pairs()
        self.refused_with(NoRows, "number", 0, Debts, told)

    def test_no_name(self):
        for debts in (Debts(), Debts([("a", "b", 5)])):
            for thing in things.NO_NAMES:
                self.refused_with(NoName, "name", thing, debts.owes, thing, 1)
                self.refused_with(NoName, "name", thing, debts.owes, "a", thing)
            self.refused_with(NoName, "name", 1, debts.owes, other=2, house=1)


class HandedInTest(unittest.TestCase):
    def test_a_list_stays_and_is_not_kept(self):
        rows = [("c", "a", 2), ("a", "b", 5), ("b", "a", 1)]
        kept = list(rows)
        debts = Debts(rows)
        told = debts.pairs(), debts.balances()
        self.assertEqual(rows, kept)
        rows.append(("c", "d", 1))
        rows[0] = ("c", "a", 9)
        self.assertEqual((debts.pairs(), debts.balances()), told)
        self.assertEqual(told, ((("a", "b", 4), ("c", "a", 2)), (("a", -2), ("b", 4), ("c", -2))))

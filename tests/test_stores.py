import itertools
import random
import unittest

from stakecrates.crates import Crate
from stakecrates.errors import LacksOn, NoDay, NoLoad, NoRows
from stakecrates.loads import Load
from stakecrates.stakes import Stakes
from stakecrates.stores import in_store, least_start
from tests import things

KINDS = [("a", "x"), ("a", "y"), ("b", "x")]
A = Load([("a", "x", 1)])
NO_LOADS = things.NO_NAMES + things.NAMES + [Stakes(), Crate(1, 1), Load, (("a", "x", 3),), "a x 3"]


def load(*counts):
    return Load([kind + (many,) for kind, many in zip(KINDS, counts)])


def shifts(rows, day, kind):
    """How many more of a kind come than go up to a day."""
    return sum(row[1].many_of(*kind) * (1 if row[2] else -1) for row in rows if row[0] <= day)


def random_rows(source, many):
    return [(source.randrange(6), load(*[source.randrange(4) for kind in KINDS]), source.random() < 0.5)
            for one in range(many)]


class InStoreTest(things.Refusals, unittest.TestCase):
    ROWS = [(7, load(1, 0, 2), False), (3, load(2, 1), True), (9, load(0, 1), False), (5, load(0, 0, 2), True)]

    def test_rows_in_any_order(self):
        for rows in itertools.permutations(self.ROWS):
            for day, told in ((0, load()), (2, load()), (3, load(2, 1)), (4, load(2, 1)), (5, load(2, 1, 2)),
                              (6, load(2, 1, 2)), (7, load(1, 1)), (8, load(1, 1)), (9, load(1)), (9999, load(1))):
                self.is_alike(in_store(rows, day), told)
                self.is_alike(in_store(list(rows), day, None), told)
                self.is_alike(in_store(start=load(0, 3, 1), day=day, rows=rows), told.plus(load(0, 3, 1)))
        self.assertIs(type(in_store(self.ROWS, 3)), Load)

    def test_none(self):
        self.is_alike(in_store([], 0), Load())
        self.is_alike(in_store((), 9999, None), Load())
        self.is_alike(in_store((), 5, load(1, 2)), load(1, 2))
        self.is_alike(in_store([(0, Load(), False), (1, Load(), True)], 5), Load())

    def test_what_comes_is_ahead_of_what_goes(self):
        for rows in itertools.permutations([(4, load(2), False), (4, load(1), True), (4, load(1), True)]):
            self.is_alike(in_store(rows, 4), Load())
            self.lacks_on(4, load(0, 1), rows + ((4, load(0, 1), False),), 4)

    def lacks_on(self, day, lack, *handed):
        wrong = self.refused(LacksOn, in_store, *handed)
        self.assertEqual(wrong.day, day)
        self.is_alike(wrong.load, lack)
        self.assertIs(type(wrong.load), Load)

    def test_lacks(self):
        rows = [(8, load(9, 9, 9), False), (3, load(2, 5, 1), True), (6, load(1, 2, 2), False),
                (6, load(2, 2, 3), False), (7, load(9), True)]
        for order in itertools.permutations(rows):
            self.is_alike(in_store(order, 5), load(2, 5, 1))
            for day in (6, 7, 8, 9999):
                self.lacks_on(6, load(1, 0, 4), order, day)
                self.lacks_on(6, load(0, 0, 3), order, day, load(1, 0, 1))
        self.is_alike(in_store(rows, 7, load(1, 0, 4)), load(9, 1))
        self.lacks_on(8, load(0, 8, 9), rows, 8, load(1, 0, 4))

    def test_what_comes_later_does_not_help(self):
        rows = [(5, A, True), (4, A, False)]
        self.is_alike(in_store(rows, 3), Load())
        self.lacks_on(4, A, rows, 4)
        self.lacks_on(4, A, rows, 5)

    def test_more_than_a_row_may_have(self):
        big = Load([("a", "x", 99999)] * 3)
        self.assertEqual(in_store([(1, big, True), (2, big, True)], 2).kinds(), (("a", "x", 599994),))
        self.lacks_on(1, Load([("a", "x", 99999)] * 6), [(1, big, False), (1, big, False)], 1)

    def test_random_ones(self):
        source = random.Random(7)
        for turn in range(400):
            rows = random_rows(source, source.randrange(7))
            start = load(*[source.randrange(6) for kind in KINDS])
            for day in range(7):
                self.check(rows, day, start)

    def check(self, rows, day, start):
        for first in range(day + 1):
            counts = [start.many_of(*kind) + shifts(rows, first, kind) for kind in KINDS]
            if min(counts) < 0:
                self.lacks_on(first, load(*[max(0, -many) for many in counts]), rows, day, start)
                return
        self.is_alike(in_store(rows, day, start), load(*counts))


class LeastStartTest(things.Refusals, unittest.TestCase):
    def test_told(self):
        rows = [(7, load(5, 0, 2), False), (3, load(2, 1), True), (9, load(0, 2), False), (8, load(3), True),
                (9, load(2), False)]
        for order in itertools.permutations(rows):
            self.is_alike(least_start(order), load(3, 1, 2))
        self.is_alike(least_start(rows=list(rows)), load(3, 1, 2))
        self.assertIs(type(least_start(rows)), Load)

    def test_none(self):
        for rows in ([], (), [(3, A, True)], [(3, A, False), (3, A, True)], [(3, Load(), False)]):
            self.is_alike(least_start(rows), Load())

    def test_more_than_a_row_may_have(self):
        self.assertEqual(least_start([(1, Load([("a", "x", 99999)] * 2), False)]).kinds(), (("a", "x", 199998),))

    def test_least(self):
        source = random.Random(11)
        for turn in range(400):
            rows = random_rows(source, source.randrange(8))
            start = least_start(rows)
            told = [max([0] + [-shifts(rows, day, kind) for day in range(7)]) for kind in KINDS]
            self.is_alike(start, load(*told))
            in_store(rows, 9999, start)
            for house, sort, many in start.kinds():
                fewer = start.less(Load([(house, sort, 1)]))
                wrong = self.refused(LacksOn, in_store, rows, 9999, fewer.plus(Load([("c", "z", 9)])))
                self.is_alike(wrong.load, Load([(house, sort, 1)]))


class RefusalsTest(things.Refusals, unittest.TestCase):
    def test_what_is_no_row(self):
        for thing in [None] + things.NO_ROWS + [A]:
            self.refused_with(NoRows, "number", None, in_store, thing, -1, 5)
            self.refused_with(NoRows, "number", None, in_store, start=None, day=1, rows=thing)
            self.refused_with(NoRows, "number", None, least_start, thing)

    def test_wrong_rows(self):
        wrong = [None] + things.NO_ROWS + things.ROWS + [[1, A, True], (1, A), (1, A, True, True), (A, 1, True)]
        wrong += [(thing, A, True) for thing in things.NO_DAYS]
        wrong += [(1, thing, False) for thing in NO_LOADS]
        wrong += [(1, A, thing) for thing in [None] + things.NO_ROWS + things.ROWS if thing is not True
                  and thing is not False]
        for row in wrong:
            self.refused_with(NoRows, "number", 0, in_store, [row], 1)
            self.refused_with(NoRows, "number", 0, least_start, (row,))
            rows = ((9, A, True), (1, A, False), row, None)
            self.refused_with(NoRows, "number", 2, in_store, rows, -1, "x")
            self.refused_with(NoRows, "number", 2, least_start, list(rows))

    def test_no_day_ahead_of_no_load(self):
        for thing in things.NO_DAYS:
            self.refused_with(NoDay, "day", thing, in_store, [], thing)
            self.refused_with(NoDay, "day", thing, in_store, [(0, A, False)], thing, 5)
            self.refused_with(NoDay, "day", thing, in_store, start="x", day=thing, rows=())

    def test_no_load_ahead_of_lacks(self):
        for thing in NO_LOADS:
            if thing is not None:
                self.refused(NoLoad, in_store, [], 1, thing)
                self.refused(NoLoad, in_store, [(0, A, False)], 1, start=thing)

    def test_rows_are_all_looked_at(self):
        self.refused_with(NoRows, "number", 1, in_store, [(0, A, False), (9, A, 1)], 0)


class HandedInTest(unittest.TestCase):
    def test_lists_stay_and_are_not_kept(self):
        start = load(1, 1)
        rows = [(5, load(0, 0, 2), True), (3, load(2, 1), True), (7, load(3, 0, 3), False)]
        kept = list(rows)
        told = [in_store(rows, 6, start), least_start(rows)]
        try:
            in_store(rows, 7, start)
        except LacksOn as wrong:
            told.append(wrong.load)
        again = repr(told)
        self.assertEqual(len(told), 3)
        self.assertTrue(all(row is old for row, old in zip(rows, kept)) and len(rows) == 3)
        self.assertEqual(str(start), "a x 1\na y 1")
        rows[0] = (0, load(9), True)
        rows.pop()
        self.assertEqual(repr(told), again)

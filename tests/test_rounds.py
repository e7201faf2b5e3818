import itertools
import random
import unittest

from stakecrates.errors import NoRows
from stakecrates.rounds import least_room, need
from tests import things

ANYTHING = things.NO_NAMES + things.NAMES


def counted_need(stops):
    """What a cart has at most, counted apart from the program."""
    had = [sum(drop for drop, take in stops)]
    for drop, take in stops:
        had.append(had[-1] - drop + take)
    return max(had)


class NeedTest(unittest.TestCase):
    def check(self, told, stops):
        self.assertEqual(need(stops), told)
        self.assertEqual(need(stops=tuple(stops)), told)
        self.assertIs(type(need(stops)), int)

    def test_none_and_one(self):
        self.check(0, [])
        self.check(0, [(0, 0)])
        self.check(5, [(5, 0)])
        self.check(5, [(0, 5)])
        self.check(5, [(5, 3)])
        self.check(5, [(3, 5)])
        self.check(999, [(999, 999)])

    def test_the_most_at_first(self):
        self.check(12, [(5, 1), (4, 2), (3, 3)])

    def test_the_most_behind_a_stop(self):
        self.check(11, [(1, 5), (6, 0), (0, 1)])
        self.check(16, [(1, 5), (6, 10), (1, 0), (0, 1)])
        self.check(9, [(1, 1), (1, 4), (0, 4)])

    def test_the_drop_is_left_ahead_of_the_take(self):
        self.check(10, [(10, 10)])
        self.check(10, [(5, 5), (5, 5)])

    def test_the_told_order_counts(self):
        self.check(10, [(10, 0), (0, 10)])
        self.check(20, [(0, 10), (10, 0)])

    def test_all_small_ones(self):
        rows = list(itertools.product(range(3), repeat=2))
        for size in range(4):
            for stops in itertools.product(rows, repeat=size):
                self.assertEqual(need(stops), counted_need(stops))


class LeastRoomTest(unittest.TestCase):
    def check(self, stops):
        told = least_room(stops)
        self.assertIs(type(told), tuple)
        room, order = told
        self.assertIs(type(order), tuple)
        self.assertTrue(all(type(number) is int for number in order))
        self.assertEqual(sorted(order), list(range(len(stops))))
        self.assertEqual(need([stops[number] for number in order]), room)
        self.assertEqual(room, max(sum(drop for drop, take in stops), sum(take for drop, take in stops)))
        self.assertEqual(least_room(stops=list(stops)), least_room(tuple(stops)))
        return room

    def test_none_one_and_some(self):
        self.assertEqual(least_room([]), (0, ()))
        self.assertEqual(least_room([(5, 3)]), (5, (0,)))
        self.assertEqual(least_room([(3, 5)]), (5, (0,)))
        self.assertEqual(least_room(((0, 10), (10, 0))), (10, (1, 0)))
        self.assertEqual(self.check([(999, 999)] * 40), 999 * 40)
        self.assertEqual(self.check([(999, 0), (0, 999)] * 20), 999 * 20)

    def test_against_all_orders(self):
        rows = list(itertools.product(range(3), repeat=2))
        few = list(itertools.combinations_with_replacement(rows, 3))
        source = random.Random(7)
        few += [tuple((source.randrange(9), source.randrange(9)) for one in range(5)) for turn in range(60)]
        few += [tuple((source.randrange(1000), source.randrange(1000)) for one in range(6)) for turn in range(5)]
        for stops in few:
            least = min(counted_need(order) for order in itertools.permutations(stops))
            self.assertEqual(self.check(stops), least, stops)

    def test_many(self):
        source = random.Random(8)
        for turn in range(200):
            self.check([(source.randrange(1000), source.randrange(1000)) for one in range(source.randrange(41))])


class RefusalsTest(things.Refusals, unittest.TestCase):
    def both_refuse(self, number, stops):
        for deed in (need, least_room):
            self.refused_with(NoRows, "number", number, deed, stops)
            self.refused_with(NoRows, "number", number, deed, stops=stops)

    def test_what_is_no_row(self):
        for thing in [None] + things.NO_ROWS:
            self.both_refuse(None, thing)

    def test_bounds(self):
        for many in (0, 1, 998, 999):
            self.assertEqual(need([(many, 0)]), many)
            self.assertEqual(need([(0, many)]), many)
        for many in things.NO_WHOLES + [-1, -2, 1000, 1001, 10 ** 5000]:
            for stop in ((many, 0), (0, many), (many, many)):
                self.both_refuse(0, [stop])
                self.both_refuse(0, (stop, None))
                self.both_refuse(2, [(1, 2), (0, 999), stop, stop])

    def test_what_is_no_stop(self):
        for thing in ANYTHING + [(), (1,), (1, 2, 3), [1, 2], ((1, 2),), "12"]:
            self.both_refuse(0, [thing])
            self.both_refuse(1, ((3, 4), thing))


class HandedInTest(unittest.TestCase):
    def test_lists_stay_and_are_not_kept(self):
        stops = [(0, 5), (7, 1), (2, 2)]
        told = least_room(stops)
        need(stops)
        self.assertEqual(stops, [(0, 5), (7, 1), (2, 2)])
        again = repr(told)
        stops.clear()
        self.assertEqual(repr(told), again)

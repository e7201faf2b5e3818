import itertools
import unittest

from stakecrates.dealings import dealt
from stakecrates.sums import each_back, sums_out
from tests import small

OUTS = ((2, 3, 15), (5, 2, 8), (6, 4, 8), (9, 1, 20))
BACKS = ((5, 1), (6, 4), (6, 2), (12, 1))
SMALL = list(itertools.product(small.all_outs((1, 3, 5), (1, 2), (0, 3, 8)), small.all_backs((1, 3, 5), (1, 2), 2)))
RULES = (None, "first", "last", "cheap", "dear", lambda day, amount: (amount, -day), lambda day, amount: 0)


class SumsOutTest(unittest.TestCase):
    def test_told(self):
        self.assertEqual(sums_out(OUTS, BACKS), (113 - 97, 113 - 78))
        self.assertEqual(sums_out(backs=list(BACKS), outs=list(OUTS)), (16, 35))
        self.assertIs(type(sums_out(OUTS, BACKS)), tuple)

    def test_none(self):
        self.assertEqual(sums_out((), ()), (0, 0))
        self.assertEqual(sums_out(OUTS, []), (113, 113))

    def test_great_numbers(self):
        outs = [(0, 99999, 9999), (1, 99999, 9998)]
        self.assertEqual(sums_out(outs, [(1, 99999)]), (99999 * 9998, 99999 * 9999))

    def test_all_small_ones(self):
        for outs, backs in SMALL:
            if small.first_short(outs, backs) is None:
                went = sum(many * amount for day, many, amount in outs)
                sums = [went - small.sum_of(outs, dealing) for dealing in small.all_dealings(outs, backs)]
                self.assertEqual(sums_out(outs, backs), (min(sums), max(sums)))

    def test_more_backs_than_two(self):
        outs = ((1, 2, 5), (2, 2, 1), (3, 2, 9), (4, 1, 4))
        for backs in small.all_backs((1, 2, 3, 4), (1, 2), 4):
            if small.first_short(outs, backs) is None:
                sums = [34 - small.sum_of(outs, dealing) for dealing in small.all_dealings(outs, backs)]
                self.assertEqual(sums_out(outs, backs), (min(sums), max(sums)))


class EachBackTest(unittest.TestCase):
    def test_told(self):
        for by, told in (("first", (15, 46, 16, 8)), (None, (15, 46, 16, 8)), ("last", (8, 32, 23, 20)),
                         ("cheap", (8, 32, 23, 15)), ("dear", (15, 46, 16, 20)),
                         (lambda day, amount: amount - day, (8, 32, 23, 20)), (lambda day, amount: 0, (15, 46, 16, 8))):
            self.assertEqual(each_back(OUTS, BACKS, by), told)
            self.assertEqual(each_back(by=by, backs=list(BACKS), outs=list(OUTS)), told)
        self.assertEqual(each_back(OUTS, BACKS), (15, 46, 16, 8))
        self.assertIs(type(each_back(OUTS, BACKS)), tuple)

    def test_none(self):
        for by in RULES:
            self.assertEqual(each_back((), (), by), ())
            self.assertEqual(each_back(OUTS, [], by), ())

    def test_backs_for_nothing_are_told(self):
        self.assertEqual(each_back(((1, 5, 0), (2, 1, 7)), ((1, 2), (2, 1), (2, 2))), (0, 0, 0))
        self.assertEqual(each_back(((1, 5, 0), (2, 1, 7)), ((1, 2), (2, 1), (2, 2)), "dear"), (0, 7, 0))

    def test_against_dealt(self):
        for outs, backs in SMALL:
            if small.first_short(outs, backs) is None:
                for by in RULES:
                    told = [0] * len(backs)
                    for back, out, many in dealt(outs, backs, by):
                        told[back] += many * outs[out][2]
                    self.assertEqual(each_back(outs, backs, by), tuple(told))

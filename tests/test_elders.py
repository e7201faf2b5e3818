import itertools
import unittest

from stakecrates.dealings import is_dealing, left
from stakecrates.elders import dealt_to, elder
from stakecrates.errors import NoMany
from tests import small, things

OUTS = ((2, 3, 15), (5, 2, 8), (6, 4, 8), (9, 1, 20))
BACKS = ((5, 1), (6, 4), (6, 2), (12, 1))
SMALL = list(itertools.product(small.all_outs((1, 3, 5), (1, 2), (4,)), small.all_backs((1, 3, 4, 5), (1, 2), 3)))
DAYS = (0, 1, 2, 3, 4, 5, 6, 9999)


def elder_ones(outs, rest, day):
    return sum(many for out, many in zip(outs, rest) if out[0] < day)


class ElderTest(unittest.TestCase):
    def test_told(self):
        for day, told in ((0, (0, 0)), (2, (0, 0)), (3, (0, 2)), (5, (0, 2)), (6, (0, 2)), (7, (1, 2)), (9, (1, 2)),
                          (10, (2, 2)), (9999, (2, 2))):
            self.assertEqual(elder(OUTS, BACKS, day), told, day)
            self.assertEqual(elder(day=day, backs=list(BACKS), outs=list(OUTS)), told, day)
        self.assertIs(type(elder(OUTS, BACKS, 0)), tuple)

    def test_none(self):
        self.assertEqual(elder((), (), 0), (0, 0))
        self.assertEqual(elder([], [], 9999), (0, 0))
        self.assertEqual(elder(OUTS, (), 6), (5, 5))

    def test_great_numbers(self):
        outs, backs = [(0, 99999, 1), (1, 99999, 1)], [(0, 5), (1, 99999), (1, 99994)]
        self.assertEqual(elder(outs, backs, 1), (0, 0))
        self.assertEqual(elder(outs, backs[:2], 1), (0, 99994))
        self.check_dealt_to(outs, backs[:2], 1, 54321)

    def test_all_small_ones(self):
        for outs, backs in SMALL:
            if small.first_short(outs, backs) is None:
                rests = [small.rests(outs, dealing) for dealing in small.all_dealings(outs, backs)]
                for day in DAYS:
                    counts = [elder_ones(outs, rest, day) for rest in rests]
                    self.assertEqual(elder(outs, backs, day), (min(counts), max(counts)))
                    self.check_each(outs, backs, day)

    def check_each(self, outs, backs, day):
        least, greatest = elder(outs, backs, day)
        for many in range(least, greatest + 1):
            self.check_dealt_to(outs, backs, day, many)
        for many in (least - 1, greatest + 1):
            with self.assertRaises(NoMany) as caught:
                dealt_to(outs, backs, day, many)
            self.assertEqual(caught.exception.many, many)

    def check_dealt_to(self, outs, backs, day, many):
        dealing = dealt_to(outs, backs, day, many)
        self.assertIs(is_dealing(outs, backs, dealing), True)
        self.assertEqual(elder_ones(outs, left(outs, backs, dealing), day), many)


class DealtToTest(things.Refusals, unittest.TestCase):
    def test_by_name_and_of_lists(self):
        for many in (1, 2):
            dealing = dealt_to(many=many, day=7, backs=list(BACKS), outs=list(OUTS))
            self.assertIs(is_dealing(OUTS, BACKS, dealing), True)
            self.assertEqual(elder_ones(OUTS, left(OUTS, BACKS, dealing), 7), many)

    def test_none(self):
        self.assertEqual(dealt_to((), (), 5, 0), ())
        self.assertEqual(dealt_to(OUTS, [], 6, 5), ())
        self.refused_with(NoMany, "many", 4, dealt_to, OUTS, [], 6, 4)
        self.refused_with(NoMany, "many", 1, dealt_to, (), (), 5, 1)

    def test_truths_are_no_numbers(self):
        self.refused_with(NoMany, "many", True, dealt_to, OUTS, BACKS, 7, True)
        self.refused_with(NoMany, "many", False, dealt_to, (), (), 7, False)

import itertools
import unittest

from stakecrates.crates import Crate
from stakecrates.errors import NoForm, NoLoad
from stakecrates.loads import Load
from stakecrates.packing import packed
from stakecrates.stakes import Stakes
from tests import things

NO_FORMS = things.NO_WHOLES + [0, -1, 7, 8, 100]


class PackedTest(unittest.TestCase):
    LOAD = Load([("b", "y", 2), ("a", "y", 3), ("a", "x", 2), ("b", "x", 1)])

    def words(self, crates):
        self.assertIs(type(crates), tuple)
        return [repr(crate) for crate in crates]

    def test_by_house(self):
        told = ["Crate(2, 2, a/x a/x a/y a/y)", "Crate(2, 2, a/y - - -)", "Crate(2, 2, b/x b/y b/y -)"]
        self.assertEqual(self.words(packed(self.LOAD, 2, 2)), told)
        self.assertEqual(self.words(packed(self.LOAD, 2, 2, False)), told)
        self.assertEqual(self.words(packed(apart=False, deep=2, wide=2, load=self.LOAD)), told)

    def test_by_kind(self):
        told = ["Crate(2, 1, a/x a/x)", "Crate(2, 1, a/y a/y)", "Crate(2, 1, a/y -)", "Crate(2, 1, b/x -)",
                "Crate(2, 1, b/y b/y)"]
        self.assertEqual(self.words(packed(self.LOAD, 2, 1, True)), told)
        self.assertEqual(self.words(packed(apart=True, load=self.LOAD, deep=1, wide=2)), told)

    def test_none(self):
        self.assertEqual(packed(Load(), 6, 4), ())
        self.assertEqual(packed(Load(), 1, 1, True), ())

    def test_just_whole(self):
        self.assertEqual(self.words(packed(Load([("a", "x", 6)]), 3, 1)), ["Crate(3, 1, a/x a/x a/x)"] * 2)

    def test_bounds(self):
        for apart in (False, True):
            most = packed(Load([("a", "x", 999)]), 6, 4, apart)
            self.assertEqual([len(crate) for crate in most], [24] * 41 + [15])
            self.assertEqual(len(packed(Load([("a", "x", 998), ("b", "x", 1)]), 1, 1, apart)), 999)

    def test_as_told(self):
        kinds = [("a", "x"), ("a", "y"), ("b", "a"), ("ba", "x")]
        for counts in itertools.product((0, 1, 3, 7), repeat=len(kinds)):
            load = Load([kind + (many,) for kind, many in zip(kinds, counts)])
            for wide, deep, apart in itertools.product((1, 2, 3), (1, 2), (False, True)):
                self.check_packed(load, wide, deep, apart)

    def check_packed(self, load, wide, deep, apart):
        crates = packed(load, wide, deep, apart)
        size = wide * deep
        inside = Load()
        groups = []
        for crate in crates:
            self.assertIs(type(crate), Crate)
            self.assertEqual((crate.wide, crate.deep), (wide, deep))
            bottles = [place for place in crate.places() if place is not None]
            self.assertEqual(list(crate.places()), bottles + [None] * (size - len(bottles)))
            self.assertEqual(bottles, sorted(bottles))
            group = {bottle if apart else bottle[0] for bottle in bottles}
            self.assertEqual(len(group), 1)
            groups += list(group)
            inside = inside.plus(crate.inside())
        self.assertEqual(inside, load)
        self.assertEqual(groups, sorted(groups))
        for crate, group, behind in zip(crates, groups, groups[1:]):
            self.assertEqual(crate.short_by() == 0 or group != behind, True)
        order = [place for crate in crates for place in crate.places() if place is not None]
        self.assertEqual(order, sorted(order))

    def test_a_load_stays(self):
        load = Load([("a", "x", 3)])
        packed(load, 2, 1)
        self.assertEqual(load.kinds(), (("a", "x", 3),))


class RefusalsTest(things.Refusals, unittest.TestCase):
    def test_no_load(self):
        for thing in things.NO_NAMES + things.NAMES + [Stakes(), Crate(1, 1), (("a", "x", 1),), Load]:
            self.refused(NoLoad, packed, thing, 2, 2)
            self.refused(NoLoad, packed, thing, 0, 9, True)

    def test_too_many_bottles(self):
        for rows in ([("a", "x", 1000)], [("a", "x", 999), ("b", "x", 1)], [("a", "x", 99999)] * 3):
            self.refused(NoLoad, packed, Load(rows), 6, 4)
            self.refused(NoLoad, packed, Load(rows), 6, 4, True)
            self.refused(NoLoad, packed, apart=True, deep=0, wide=7, load=Load(rows))

    def test_no_form(self):
        for load in (Load(), Load([("a", "x", 999)])):
            for thing in NO_FORMS:
                self.refused(NoForm, packed, load, thing, 1)
                self.refused(NoForm, packed, load, 1, thing, True)
            self.refused(NoForm, packed, load, 6, 5)

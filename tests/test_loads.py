import itertools
import unittest

from stakecrates.errors import Lacks, NoDay, NoLoad, NoName, NoRows, NoStakes
from stakecrates.loads import Load, in_order
from stakecrates.stakes import Stakes
from tests import things

NO_MANY = things.NO_WHOLES + [-1, -2, 100000, 100001, 123456789012, 10 ** 5000]
NO_LOADS = things.NO_NAMES + things.NAMES + [Stakes(), Load, (("a", "x", 3),), "a x 3"]
KINDS = [("a", "x"), ("a", "y"), ("b", "x")]
SMALL = [Load([kind + (many,) for kind, many in zip(KINDS, counts)])
         for counts in itertools.product((0, 1, 3), repeat=3)]


def counts_of(load):
    return [load.many_of(*kind) for kind in KINDS]


class LoadTest(unittest.TestCase):
    def test_none(self):
        for none in (Load(), Load(None), Load([]), Load(()), Load(rows=None), Load([("a", "x", 0)])):
            self.assertEqual(none.many_of("a", "x"), 0)
            self.assertEqual(none.kinds(), ())
            self.assertEqual(none.bottles(), 0)
            self.assertEqual(len(none), 0)
            self.assertIs(bool(none), False)
            self.assertEqual(str(none), "none")
            self.assertEqual(repr(none), "Load()")

    def test_many_rows(self):
        rows = [("b", "y", 2), ("a", "x", 1), ("b", "x", 0), ("a", "x", 2), ("c", "a", 99999)]
        for order in itertools.permutations(rows):
            load = Load(order)
            self.assertEqual(load.kinds(), (("a", "x", 3), ("b", "y", 2), ("c", "a", 99999)))
            self.assertEqual(load.many_of("a", "x"), 3)
            self.assertEqual(load.many_of("b", "x"), 0)
            self.assertEqual(load.many_of("x", "a"), 0)
            self.assertEqual(load.bottles(), 100004)
            self.assertEqual(len(load), 3)
            self.assertIs(bool(load), True)
            self.assertEqual(str(load), "a x 3\nb y 2\nc a 99999")
            self.assertEqual(repr(load), "Load(a x 3, b y 2, c a 99999)")

    def test_kinds_rise_by_houses_then_sorts(self):
        load = Load([("b", "a", 1), ("aa", "z", 9), ("a", "z", 8), ("a", "b", 9)])
        self.assertEqual(load.kinds(), (("a", "b", 9), ("a", "z", 8), ("aa", "z", 9), ("b", "a", 1)))
        self.assertIs(type(load.kinds()), tuple)
        self.assertIs(type(load.kinds()[0]), tuple)

    def test_rows_count_together_beyond_a_row(self):
        load = Load([("a", "x", 99999)] * 3)
        self.assertEqual(load.kinds(), (("a", "x", 299997),))
        self.assertEqual(load.bottles(), 299997)

    def test_arguments_by_name(self):
        load = Load(rows=[("a", "x", 3), ("b", "x", 2)])
        self.assertEqual(load.many_of(sort="x", house="a"), 3)
        self.assertEqual(load.plus(other=load).bottles(), 10)
        self.assertEqual(load.less(other=load).bottles(), 0)
        self.assertIs(load.within(other=load), True)
        self.assertEqual(load.part(sort="x", house="b").bottles(), 2)
        self.assertEqual(load.worth(day=3, stakes=Stakes([("x", 3, 5)])), 25)
        self.assertEqual(in_order(key=len, loads=[load, Load()]), (Load(), load))


class LikenessTest(things.Refusals, unittest.TestCase):
    def test_alike(self):
        one = Load([("a", "x", 3), ("b", "y", 2)])
        self.is_alike(one, one)
        self.is_alike(one, Load((("b", "y", 1), ("a", "x", 3), ("c", "z", 0), ("b", "y", 1))))
        self.is_alike(Load(), Load([("a", "x", 0)]))

    def test_unlike(self):
        one = Load([("a", "x", 3)])
        for rows in ([], [("a", "x", 2)], [("b", "x", 3)], [("a", "y", 3)], [("a", "x", 3), ("a", "y", 1)]):
            self.is_unlike(one, Load(rows))
            self.is_unlike(Load(rows), one)
            self.assertFalse(one in [Load(rows)])

    def test_unlike_to_other_things(self):
        for load in (Load(), Load([("a", "x", 3)])):
            for thing in NO_LOADS + [("a", "x", 3)]:
                self.is_unlike(load, thing)
            self.assertFalse(load in [None, (), "none", "a x 3", Stakes()])
        self.is_unlike(Stakes(), Load())


class TogetherTest(things.Refusals, unittest.TestCase):
    def test_plus(self):
        for one, other in itertools.product(SMALL, SMALL):
            told = [many + more for many, more in zip(counts_of(one), counts_of(other))]
            both = one.plus(other)
            self.assertIs(type(both), Load)
            self.assertEqual(counts_of(both), told)
            self.assertEqual(len(both), 3 - told.count(0))
        big = Load([("a", "x", 99999)])
        self.assertEqual(big.plus(big).kinds(), (("a", "x", 199998),))

    def test_less(self):
        for one, other in itertools.product(SMALL, SMALL):
            told = [many - fewer for many, fewer in zip(counts_of(one), counts_of(other))]
            if min(told) >= 0:
                self.assertEqual(counts_of(one.less(other)), told)
                self.assertEqual(len(one.less(other)), 3 - told.count(0))
            else:
                lack = self.refused(Lacks, one.less, other).load
                self.assertIs(type(lack), Load)
                self.is_alike(lack, Load([kind + (max(0, -many),) for kind, many in zip(KINDS, told)]))

    def test_lacks_of_unknown_kinds_and_of_many(self):
        big = Load([("b", "y", 99999)]).plus(Load([("b", "y", 99999), ("a", "x", 4)]))
        lack = self.refused(Lacks, Load([("a", "x", 4), ("b", "y", 1)]).less, big).load
        self.assertEqual(lack.kinds(), (("b", "y", 199997),))
        self.assertEqual(big.less(Load([("b", "y", 1)])).kinds(), (("a", "x", 4), ("b", "y", 199997)))

    def test_within(self):
        for one, other in itertools.product(SMALL, SMALL):
            told = all(many <= more for many, more in zip(counts_of(one), counts_of(other)))
            self.assertIs(one.within(other), told)

    def test_a_load_stays_as_it_was(self):
        one, other = Load([("a", "x", 3), ("b", "y", 1)]), Load([("a", "x", 1)])
        kinds = one.kinds()
        one.plus(other), one.less(other), one.part("a"), one.within(other), one.worth(Stakes(), 0)
        self.refused(Lacks, other.less, one)
        self.assertEqual(kinds, (("a", "x", 3), ("b", "y", 1)))
        self.assertEqual(one.kinds(), kinds)
        self.assertEqual(str(other), "a x 1")


class PartTest(unittest.TestCase):
    LOAD = Load([("a", "x", 3), ("a", "y", 4), ("b", "x", 5)])

    def test_part(self):
        for told, parts in (
                ("a x 3\na y 4\nb x 5", [(), (None,), (None, None)]),
                ("a x 3\na y 4", [("a",), ("a", None)]),
                ("a x 3\nb x 5", [(None, "x")]),
                ("a x 3", [("a", "x")]),
                ("none", [("b", "y"), ("x",), (None, "a"), ("c", "x")])):
            for part in parts:
                self.assertEqual(str(self.LOAD.part(*part)), told)
        self.assertEqual(str(self.LOAD.part(sort="y")), "a y 4")
        self.assertEqual(str(self.LOAD.part(house="b", sort=None)), "b x 5")

    def test_part_of_more_than_a_row_may_have(self):
        self.assertEqual(str(Load([("a", "x", 99999)] * 2).part("a")), "a x 199998")


class WorthTest(unittest.TestCase):
    def test_worth(self):
        stakes = Stakes([("x", 3, 15), ("x", 9, 8), ("y", 5, 2), ("a", 0, 9999)])
        load = Load([("a", "x", 3), ("b", "x", 1), ("b", "y", 10), ("c", "z", 7)])
        self.assertEqual([load.worth(stakes, day) for day in (0, 2, 3, 5, 8, 9, 9999)], [0, 0, 60, 80, 80, 52, 52])
        self.assertEqual(Load().worth(stakes, 9999), 0)
        self.assertEqual(Load([("a", "a", 99999)] * 2).worth(stakes, 0), 2 * 99999 * 9999)


class InOrderTest(unittest.TestCase):
    def same(self, told, loads):
        self.assertIs(type(told), tuple)
        self.assertEqual([id(load) for load in told], [id(load) for load in loads])

    def test_by_kinds(self):
        none, one, two, more = Load(), Load([("a", "x", 2)]), Load([("a", "x", 10)]), Load([("a", "x", 2), ("b", "a", 1)])
        last = Load([("b", "a", 1)])
        told = [none, one, more, two, last]
        for loads in itertools.permutations(told):
            self.same(in_order(loads), told)
            self.same(in_order(list(loads), None), told)
        self.assertEqual(in_order([]), ())
        self.assertEqual(in_order(()), ())

    def test_by_a_key(self):
        loads = [Load([("a", "x", many)]) for many in (2, 10, 1)]
        self.same(in_order(loads, Load.bottles), [loads[2], loads[0], loads[1]])
        self.same(in_order(loads, str), [loads[2], loads[1], loads[0]])
        self.same(in_order(tuple(loads), key=lambda load: -load.bottles()), [loads[1], loads[0], loads[2]])
        self.same(in_order(loads, lambda load: 0), loads)

    def test_alike_ones_stay_in_order(self):
        loads = [Load([("b", "x", 1)]), Load([("a", "x", 1)]), Load([("b", "x", 1)]), Load([("a", "x", 1)])]
        self.same(in_order(loads), [loads[1], loads[3], loads[0], loads[2]])
        self.same(in_order(loads, lambda load: load.many_of("b", "x")), [loads[1], loads[3], loads[0], loads[2]])
        self.same(in_order(loads, lambda load: load.bottles()), loads)

    def test_a_list_stays(self):
        loads = [Load([("b", "x", 1)]), Load()]
        kept = list(loads)
        told = in_order(loads)
        self.same(tuple(loads), kept)
        loads.clear()
        self.same(told, [kept[1], kept[0]])


class RefusalsTest(things.Refusals, unittest.TestCase):
    def setUp(self):
        self.load = Load([("a", "x", 1), ("b", "y", 2)])

    def tearDown(self):
        self.assertEqual(str(self.load), "a x 1\nb y 2")

    def test_what_is_no_row(self):
        for thing in things.NO_ROWS:
            self.refused_with(NoRows, "number", None, Load, thing)
            self.refused_with(NoRows, "number", None, Load, rows=thing)

    def test_wrong_rows(self):
        wrong = [None] + things.NO_ROWS + things.ROWS
        wrong += [["a", "x", 1], ("a", "x"), ("a", "x", 1, 1), ("ax", 1)]
        wrong += [(thing, "x", 1) for thing in things.NO_NAMES]
        wrong += [("a", thing, 1) for thing in things.NO_NAMES]
        wrong += [("a", "x", thing) for thing in NO_MANY]
        for row in wrong:
            self.refused_with(NoRows, "number", 0, Load, [row])
            self.refused_with(NoRows, "number", 2, Load, (("a", "x", 1), ("a", "x", 0), row, None))

    def test_more_that_was_told(self):
        told = Load([("a", "x", 99999), ("a", "x", 1)]).kinds()
        self.refused_with(NoRows, "number", 0, Load, told)
        self.is_alike(Load(self.load.kinds()), self.load)

    def test_no_name(self):
        for thing in things.NO_NAMES:
            self.refused_with(NoName, "name", thing, self.load.many_of, thing, "x")
            self.refused_with(NoName, "name", thing, self.load.many_of, "a", thing)
            if thing is not None:
                self.refused_with(NoName, "name", thing, self.load.part, thing)
                self.refused_with(NoName, "name", thing, self.load.part, "a", thing)
                self.refused_with(NoName, "name", thing, self.load.part, sort=thing)
        self.refused_with(NoName, "name", 1, self.load.many_of, sort=2, house=1)
        self.refused_with(NoName, "name", 1, self.load.part, sort=2, house=1)

    def test_no_load(self):
        for thing in NO_LOADS:
            self.refused(NoLoad, self.load.plus, thing)
            self.refused(NoLoad, self.load.less, thing)
            self.refused(NoLoad, self.load.within, thing)
            self.refused(NoLoad, Load().less, thing)

    def test_no_stakes_then_no_day(self):
        for load in (self.load, Load()):
            for thing in things.NO_NAMES + things.NAMES + [Load()]:
                self.refused(NoStakes, load.worth, thing, 1)
                self.refused(NoStakes, load.worth, day=-1, stakes=thing)
            self.assertEqual(load.worth(Stakes(), 1), 0)
            for thing in things.NO_DAYS:
                self.refused_with(NoDay, "day", thing, load.worth, Stakes(), thing)

    def test_no_row_of_loads(self):
        for thing in [None] + things.NO_ROWS + [self.load, Stakes(), {self.load.kinds(): 1}]:
            self.refused(NoLoad, in_order, thing)
        for thing in NO_LOADS:
            self.refused(NoLoad, in_order, [thing])
            self.refused(NoLoad, in_order, (self.load, Load(), thing))
            self.refused(NoLoad, in_order, (self.load, thing), len)


class HandedInTest(unittest.TestCase):
    def test_a_list_stays_and_is_not_kept(self):
        rows = [("b", "y", 2), ("a", "x", 3), ("a", "x", 0)]
        copy = list(rows)
        load = Load(rows)
        self.assertEqual(rows, copy)
        rows.append(("c", "z", 1))
        rows[0] = ("b", "y", 9)
        self.assertEqual(load.kinds(), (("a", "x", 3), ("b", "y", 2)))
        self.assertEqual(load.bottles(), 5)

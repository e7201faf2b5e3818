import itertools
import unittest

from stakecrates.errors import NoAmount, NoDay, NoName, NoRows, NoStakes
from stakecrates.stakes import Stakes, check_stakes
from tests import things

DAYS = list(range(0, 12)) + [9998, 9999]


def stake_told(rows, sort, day):
    """The stake as the document tells it, row by row."""
    known = [(row[1], row[2]) for row in rows if row[0] == sort and row[1] <= day]
    return max(known)[1] if known else 0


def changes_told(rows, sort):
    told = []
    ahead = 0
    for day in range(0, 10000):
        if any(row[1] == day for row in rows):
            if stake_told(rows, sort, day) != ahead:
                told.append((day, stake_told(rows, sort, day)))
            ahead = stake_told(rows, sort, day)
    return tuple(told)


class StakesTest(things.Refusals, unittest.TestCase):
    ROWS = [("y", 5, 7), ("x", 9, 8), ("x", 3, 15), ("y", 0, 2), ("z", 4, 0), ("x", 6, 15)]

    def test_none(self):
        for none in (Stakes(), Stakes(None), Stakes([]), Stakes(()), Stakes(rows=None), Stakes(rows=[])):
            self.assertEqual(none.stake("x", 0), 0)
            self.assertEqual(none.stake("x", 9999), 0)
            self.assertEqual(none.changes("x"), ())
            self.assertEqual(none.sorts(), ())
            self.assertEqual(len(none), 0)
            self.assertIs(bool(none), False)
            self.assertEqual(str(none), "none")
            self.assertEqual(repr(none), "Stakes()")

    def test_one_row(self):
        one = Stakes([("x", 3, 15)])
        told = [one.stake("x", day) for day in (0, 2, 3, 4, 9999)]
        self.assertEqual(told, [0, 0, 15, 15, 15])
        self.assertEqual(one.stake("y", 3), 0)
        self.assertEqual(one.changes("x"), ((3, 15),))
        self.assertEqual(one.changes("y"), ())
        self.assertEqual(one.sorts(), ("x",))
        self.assertEqual(len(one), 1)
        self.assertIs(bool(one), True)

    def test_many_rows_in_any_order(self):
        for rows in itertools.permutations(self.ROWS):
            stakes = Stakes(rows)
            self.assertEqual(stakes.changes("x"), ((3, 15), (9, 8)))
            self.assertEqual(stakes.changes("y"), ((0, 2), (5, 7)))
            self.assertEqual(stakes.changes("z"), ())
            self.assertEqual(stakes.sorts(), ("x", "y"))
            self.assertEqual([stakes.stake("x", day) for day in (2, 3, 5, 6, 8, 9, 10)], [0, 15, 15, 15, 15, 8, 8])

    def test_first_and_last_day(self):
        stakes = Stakes([("x", 0, 9999), ("x", 9999, 0)])
        self.assertEqual([stakes.stake("x", day) for day in (0, 1, 9998, 9999)], [9999, 9999, 9999, 0])
        self.assertEqual(stakes.changes("x"), ((0, 9999), (9999, 0)))

    def test_rows_that_change_nothing(self):
        self.assertEqual(len(Stakes([("x", 3, 0)])), 0)
        self.assertEqual(Stakes([("x", 3, 5), ("x", 4, 5)]).changes("x"), ((3, 5),))
        self.assertEqual(Stakes([("x", 3, 5), ("x", 4, 0), ("x", 7, 0)]).changes("x"), ((3, 5), (4, 0)))
        self.assertEqual(Stakes([("x", 3, 5), ("y", 4, 5)]).changes("y"), ((4, 5),))

    def test_all_small_rows(self):
        parts = [("x", 0), ("x", 2), ("x", 3), ("y", 2)]
        for amounts in itertools.product((None, 0, 4, 6), repeat=len(parts)):
            rows = [part + (amount,) for part, amount in zip(parts, amounts) if amount is not None]
            stakes = Stakes(rows)
            for sort in ("x", "y", "z"):
                self.assertEqual([stakes.stake(sort, day) for day in DAYS],
                                 [stake_told(rows, sort, day) for day in DAYS])
            changes = [(sort,) + change for sort in ("x", "y") for change in stakes.changes(sort)]
            self.assertEqual(len(stakes), len(changes))
            self.assertEqual(str(stakes), "\n".join(f"{s} {d} {a}" for s, d, a in changes) or "none")
            self.assertEqual(repr(stakes), "Stakes(" + ", ".join(f"{s} {d} {a}" for s, d, a in changes) + ")")
            self.assertEqual(stakes.sorts(), tuple(sorted({change[0] for change in changes})))

    def test_changes_day_by_day(self):
        for sort in ("x", "y", "z"):
            self.assertEqual(Stakes(self.ROWS).changes(sort), changes_told(self.ROWS, sort))

    def test_told_are_tuples(self):
        stakes = Stakes(self.ROWS)
        self.assertIs(type(stakes.changes("x")), tuple)
        self.assertIs(type(stakes.changes("x")[0]), tuple)
        self.assertIs(type(stakes.sorts()), tuple)

    def test_str_and_repr(self):
        stakes = Stakes([("x", 9, 8), ("x", 3, 15)])
        self.assertEqual(str(stakes), "x 3 15\nx 9 8")
        self.assertEqual(repr(stakes), "Stakes(x 3 15, x 9 8)")
        self.assertEqual(str(Stakes([("x", 10, 1), ("x", 9, 2), ("ab", 1, 1)])), "ab 1 1\nx 9 2\nx 10 1")

    def test_arguments_by_name(self):
        stakes = Stakes(rows=self.ROWS)
        self.assertEqual(stakes.stake(day=4, sort="x"), 15)
        self.assertEqual(stakes.changes(sort="x"), ((3, 15), (9, 8)))
        self.assertEqual(stakes.put(amount=1, day=2, sort="x").changes("x"), ((2, 1), (3, 15), (9, 8)))

    def test_what_was_told_may_be_handed_in(self):
        stakes = Stakes(self.ROWS)
        rows = tuple(("x",) + change for change in stakes.changes("x"))
        self.assertEqual(Stakes(rows).changes("x"), stakes.changes("x"))


class LikenessTest(things.Refusals, unittest.TestCase):
    def test_alike(self):
        one = Stakes([("x", 3, 15), ("x", 9, 8), ("y", 2, 1)])
        self.is_alike(one, one)
        self.is_alike(one, Stakes((("y", 2, 1), ("x", 9, 8), ("x", 3, 15))))
        self.is_alike(one, Stakes([("x", 3, 15), ("x", 5, 15), ("x", 9, 8), ("y", 2, 1), ("z", 0, 0), ("x", 0, 0)]))
        self.is_alike(Stakes(), Stakes([("x", 5, 0)]))

    def test_unlike(self):
        one = Stakes([("x", 3, 15)])
        for rows in ([], [("x", 3, 14)], [("x", 4, 15)], [("y", 3, 15)], [("x", 3, 15), ("y", 3, 15)],
                     [("x", 3, 15), ("x", 9999, 0)]):
            self.is_unlike(one, Stakes(rows))
            self.is_unlike(Stakes(rows), one)
            self.assertFalse(one in [Stakes(rows)])

    def test_unlike_to_other_things(self):
        for stakes in (Stakes(), Stakes([("x", 3, 15)])):
            for thing in things.NO_NAMES + things.NAMES + ["x 3 15", (("x", 3, 15),), [("x", 3, 15)]]:
                self.is_unlike(stakes, thing)
            self.assertFalse(stakes in [None, (), "none", "x 3 15", 0])


class PutTest(things.Refusals, unittest.TestCase):
    ROWS = [("x", 3, 15), ("x", 9, 8), ("y", 5, 2)]

    def check_put(self, day, amount, changes):
        stakes = Stakes(self.ROWS)
        new = stakes.put("x", day, amount)
        self.assertIs(type(new), Stakes)
        self.assertEqual(new.changes("x"), changes)
        self.assertEqual(new.changes("y"), ((5, 2),))
        self.assertEqual(stakes.changes("x"), ((3, 15), (9, 8)))
        self.assertEqual(str(stakes), "x 3 15\nx 9 8\ny 5 2")

    def test_ahead_of_a_change(self):
        self.check_put(0, 4, ((0, 4), (3, 15), (9, 8)))
        self.check_put(2, 15, ((2, 15), (9, 8)))
        self.check_put(2, 0, ((3, 15), (9, 8)))
        self.check_put(8, 8, ((3, 15), (8, 8)))

    def test_on_a_change(self):
        self.check_put(3, 15, ((3, 15), (9, 8)))
        self.check_put(3, 4, ((3, 4), (9, 8)))
        self.check_put(3, 0, ((9, 8),))
        self.check_put(3, 8, ((3, 8),))
        self.check_put(9, 15, ((3, 15),))
        self.check_put(9, 0, ((3, 15), (9, 0)))

    def test_behind_a_change(self):
        self.check_put(4, 15, ((3, 15), (9, 8)))
        self.check_put(4, 1, ((3, 15), (4, 1), (9, 8)))
        self.check_put(10, 8, ((3, 15), (9, 8)))
        self.check_put(10, 9, ((3, 15), (9, 8), (10, 9)))
        self.check_put(9999, 9999, ((3, 15), (9, 8), (9999, 9999)))

    def test_new_sort(self):
        stakes = Stakes(self.ROWS)
        self.assertEqual(stakes.put("w", 6, 1).sorts(), ("w", "x", "y"))
        self.is_alike(stakes.put("w", 6, 0), stakes)
        self.assertEqual(Stakes().put("w", 0, 3).changes("w"), ((0, 3),))

    def test_rows_that_change_nothing_end_no_put(self):
        stakes = Stakes([("x", 3, 15), ("x", 5, 15), ("x", 9, 8)])
        self.assertEqual(stakes.put("x", 4, 10).changes("x"), ((3, 15), (4, 10), (9, 8)))
        self.assertEqual(Stakes([("x", 5, 0)]).put("x", 4, 10).changes("x"), ((4, 10),))

    def test_day_by_day(self):
        for amounts in itertools.product((0, 4, 6), repeat=3):
            stakes = Stakes([("x", day, amount) for day, amount in zip((1, 3, 6), amounts)])
            for day, amount in itertools.product(range(0, 9), (0, 4, 6)):
                behind = [change[0] for change in stakes.changes("x") if change[0] > day] + [99]
                told = [amount if day <= on < behind[0] else stakes.stake("x", on) for on in DAYS]
                new = stakes.put("x", day, amount)
                self.assertEqual([new.stake("x", on) for on in DAYS if on < 99], told[:12])
                self.assertEqual(new.stake("x", 9999), amount if behind == [99] else stakes.stake("x", 9999))


class RefusalsTest(things.Refusals, unittest.TestCase):
    def setUp(self):
        self.stakes = Stakes([("x", 1, 15), ("x", 9, 8)])

    def tearDown(self):
        self.assertEqual(str(self.stakes), "x 1 15\nx 9 8")

    def test_no_name(self):
        for thing in things.NO_NAMES:
            self.refused_with(NoName, "name", thing, self.stakes.stake, thing, 3)
            self.refused_with(NoName, "name", thing, self.stakes.changes, thing)
            self.refused_with(NoName, "name", thing, self.stakes.put, thing, 3, 4)

    def test_no_day(self):
        for day in (1, 0):
            self.assertEqual(self.stakes.stake("x", day), 15 * day)
            self.assertEqual(self.stakes.put("x", day, 7).stake("x", day), 7)
        for thing in things.NO_DAYS:
            self.refused_with(NoDay, "day", thing, self.stakes.stake, "x", thing)
            self.refused_with(NoDay, "day", thing, self.stakes.put, "x", thing, 4)

    def test_no_amount(self):
        for amount in (1, 0, 9999):
            self.assertEqual(self.stakes.put("x", 2, amount).stake("x", 2), amount)
        for thing in things.NO_AMOUNTS:
            self.refused_with(NoAmount, "amount", thing, self.stakes.put, "x", 2, thing)

    def test_first_from_the_left(self):
        self.refused_with(NoName, "name", "", self.stakes.stake, "", -1)
        self.refused_with(NoName, "name", "", self.stakes.stake, day=-1, sort="")
        self.refused_with(NoName, "name", "X", self.stakes.put, amount=-1, day=True, sort="X")
        self.refused_with(NoDay, "day", True, self.stakes.put, amount=-1, day=True, sort="x")

    def test_what_is_no_row(self):
        for thing in things.NO_ROWS:
            self.refused_with(NoRows, "number", None, Stakes, thing)
            self.refused_with(NoRows, "number", None, Stakes, rows=thing)

    def test_wrong_rows(self):
        wrong = [None] + things.NO_ROWS + things.ROWS
        wrong += [["x", 1, 2], ("x", 1), ("x", 1, 2, 3), (), ("x",)]
        wrong += [(thing, 1, 2) for thing in things.NO_NAMES]
        wrong += [("x", thing, 2) for thing in things.NO_DAYS]
        wrong += [("x", 1, thing) for thing in things.NO_AMOUNTS]
        for row in wrong:
            self.refused_with(NoRows, "number", 0, Stakes, [row])
            self.refused_with(NoRows, "number", 2, Stakes, (("x", 1, 2), ("x", 0, 2), row, None))

    def test_a_sort_twice_with_one_day(self):
        self.refused_with(NoRows, "number", 1, Stakes, [("x", 1, 2), ("x", 1, 3)])
        self.refused_with(NoRows, "number", 2, Stakes, [("x", 1, 2), ("y", 1, 2), ("x", 1, 2)])
        self.refused_with(NoRows, "number", 1, Stakes, [("x", 1, 0), ("x", 1, 0), None])
        self.refused_with(NoRows, "number", 1, Stakes, [("x", 1, 0), None, ("x", 1, 0)])
        self.assertEqual(len(Stakes([("x", 1, 2), ("y", 1, 2), ("x", 2, 3)])), 3)

    def test_truths_behind_their_numbers(self):
        self.assertEqual(len(Stakes([("x", 1, 1)])), 1)
        self.refused_with(NoRows, "number", 0, Stakes, [("x", True, 1)])
        self.refused_with(NoRows, "number", 0, Stakes, [("x", 1, True)])

    def test_no_stakes(self):
        self.assertIsNone(check_stakes(self.stakes))
        for thing in things.NO_NAMES + things.NAMES:
            self.refused(NoStakes, check_stakes, thing)


class HandedInTest(unittest.TestCase):
    def test_a_list_stays_and_is_not_kept(self):
        rows = [("x", 9, 8), ("x", 3, 15), ("y", 1, 0)]
        copy = list(rows)
        stakes = Stakes(rows)
        changes, sorts = stakes.changes("x"), stakes.sorts()
        self.assertEqual(rows, copy)
        rows.append(("z", 1, 1))
        rows[0] = ("x", 9, 9)
        stakes.put("x", 1, 1)
        self.assertEqual(str(stakes), "x 3 15\nx 9 8")
        self.assertEqual((changes, sorts), (((3, 15), (9, 8)), ("x",)))
        self.assertEqual((stakes.changes("x"), stakes.sorts()), (changes, sorts))

    def test_a_refused_list_stays(self):
        rows = [("x", 9, 8), ("x", 9, 8)]
        with self.assertRaises(NoRows):
            Stakes(rows)
        self.assertEqual(rows, [("x", 9, 8), ("x", 9, 8)])

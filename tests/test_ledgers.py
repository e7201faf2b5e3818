import itertools
import random
import unittest

from stakecrates.errors import LacksAt, NoDay, NoName, NoRows, NotOut
from stakecrates.ledgers import is_deed, is_ledger, out_on, stands, store_on
from stakecrates.loads import Load
from tests import things

OUT = ("out", "a", "x", 5)
BACK = ("back", "b", "a", "x", 2)
HOME = ("home", "b", "a", "x", 2)
WASH = ("wash", "a", "x", 2)
BROKEN = ("broken", "b", "a", "x", 1, "cart")
PAID = ("paid", "a", "b", 10)
DEEDS = [OUT, BACK, HOME, WASH, BROKEN, PAID]
# Which parts of each deed are names; behind them stands its number.
NAMED = {"out": 2, "back": 3, "home": 3, "wash": 2, "broken": 3, "paid": 2}
MOST = {"paid": 999999}
ANYTHING = things.NO_NAMES + things.NAMES
STANDING = [(3, OUT), (5, BACK), (7, HOME), (7, WASH), (8, PAID), (9, ("back", "b", "a", "x", 3)),
            (9, BROKEN), (9, ("broken", "b", "a", "x", 1, "store"))]


def changed(deed, place, thing):
    return deed[:place] + (thing,) + deed[place + 1:]


class Told:
    """What a ledger comes to, counted apart from the program."""

    def __init__(self, ledger):
        self.ledger = ledger

    def out_by(self, origin, sort, day):
        count = 0
        for when, deed in self.ledger:
            if when <= day and deed[0] == "out" and deed[1:3] == (origin, sort):
                count += deed[3]
            if when <= day and deed[0] == "back" and deed[2:4] == (origin, sort):
                count -= deed[4]
        return count

    def stored_by(self, house, origin, sort, day):
        count = 0
        for when, deed in self.ledger:
            if when > day:
                continue
            if deed[0] == "back" and deed[1:4] == (house, origin, sort):
                count += deed[4]
            if deed[0] in ("home", "broken") and deed[1:4] == (house, origin, sort):
                count -= deed[4]
            if deed[0] == "home" and house == origin and deed[2:4] == (origin, sort):
                count += deed[4]
            if deed[0] == "wash" and house == origin and deed[1:3] == (house, sort):
                count -= deed[3]
        return count

    def fault(self, names, sorts, days):
        """None, or what the ledger is refused with."""
        kinds = list(itertools.product(names, sorts))
        for day in days:
            much = Load([kind + (max(0, -self.out_by(*kind, day)),) for kind in kinds])
            if much:
                return NotOut, day, None, much
            for house in sorted(names):
                lack = Load([kind + (max(0, -self.stored_by(house, *kind, day)),) for kind in kinds])
                if lack:
                    return LacksAt, day, house, lack
        return None


class IsDeedTest(unittest.TestCase):
    def test_each_deed(self):
        for deed in DEEDS:
            self.assertIs(is_deed(deed), True, deed)
            self.assertIs(is_deed(thing=deed), True, deed)
        self.assertIs(is_deed(("broken", "a", "a", "x", 1, "store")), True)
        self.assertIs(is_deed(("back", "a", "a", "x", 1)), True)
        self.assertIs(is_deed(("wash", "abcdef", "abcdef", 1)), True)

    def test_things_of_any_kind(self):
        for thing in ANYTHING + [Load(), "out a x 5"]:
            self.assertIs(is_deed(thing), False)

    def test_bounds_of_numbers(self):
        for deed in DEEDS:
            place = NAMED[deed[0]] + 1
            most = MOST.get(deed[0], 999)
            for many, told in ((1, True), (2, True), (most, True), (0, False), (-1, False), (most + 1, False),
                               (10 ** 5000, False), (True, False), (False, False), ("1", False), (None, False)):
                self.assertIs(is_deed(changed(deed, place, many)), told, (deed[0], told))
            for thing in things.NO_WHOLES:
                self.assertIs(is_deed(changed(deed, place, thing)), False)

    def test_names(self):
        for deed in DEEDS:
            for place in range(1, NAMED[deed[0]] + 1):
                self.assertIs(is_deed(changed(deed, place, "zzzzzz")), True)
                for thing in things.NO_NAMES:
                    self.assertIs(is_deed(changed(deed, place, thing)), False)

    def test_words(self):
        words = ["Out", "outs", "ou", "out ", "", "store", "cart", b"out", 0, None, ("out",), ["out"], {}, things.Odd(),
                 things.AlikeToAll(), True]
        for deed in DEEDS:
            for word in words + things.NAMES:
                self.assertIs(is_deed(changed(deed, 0, word)), False)
            for other in DEEDS:
                # Some deeds have parts of the same kinds.
                both = {deed[0], other[0]}
                told = len(both) == 1 or both <= {"out", "wash", "paid"} or both <= {"back", "home"}
                self.assertIs(is_deed(changed(deed, 0, other[0])), told)

    def test_a_part_more_or_less(self):
        for deed in DEEDS:
            self.assertIs(is_deed(list(deed)), False)
            self.assertIs(is_deed((deed,)), False)
            for place in range(len(deed)):
                self.assertIs(is_deed(deed[:place]), False)
                self.assertIs(is_deed(deed[:place] + deed[place + 1:]), False)
            for more in (None, "a", 1, "store", ()):
                self.assertIs(is_deed(deed + (more,)), False)
        self.assertIs(is_deed(("broken",) + BACK[1:]), False)
        self.assertIs(is_deed(BACK + ("store",)), False)

    def test_unlike_houses(self):
        self.assertIs(is_deed(("home", "a", "a", "x", 1)), False)
        self.assertIs(is_deed(("home", "a", "aa", "x", 1)), True)
        self.assertIs(is_deed(("paid", "b", "b", 1)), False)
        self.assertIs(is_deed(("paid", "b", "ba", 1)), True)

    def test_where(self):
        for where in things.NO_NAMES + things.NAMES + ["Store", "stores", "carts", "house", ("store",), ["cart"]]:
            self.assertIs(is_deed(changed(BROKEN, 5, where)), False)
        for where in ("store", "cart"):
            self.assertIs(is_deed(changed(BROKEN, 5, where)), True)


class IsLedgerTest(unittest.TestCase):
    def test_ledgers(self):
        for ledger in ([], (), STANDING, tuple(STANDING), [(0, WASH)], ((9999, BACK), (0, BACK)), [(1, PAID)] * 40,
                       ((1, OUT),) * 40):
            self.assertIs(is_ledger(ledger), True)
            self.assertIs(is_ledger(thing=ledger), True)

    def test_forty_one(self):
        self.assertIs(is_ledger([(1, PAID)] * 41), False)
        self.assertIs(is_ledger(((1, PAID),) * 41), False)
        self.assertIs(is_ledger(((1, PAID),) * 100), False)

    def test_things_of_any_kind(self):
        for thing in ANYTHING:
            if thing != [] and thing != ():
                self.assertIs(is_ledger(thing), False)
            self.assertIs(is_ledger([thing]), False)
            self.assertIs(is_ledger(((1, OUT), thing)), False)
            self.assertIs(is_ledger([(1, thing)]), False)
        for thing in things.NO_DAYS:
            self.assertIs(is_ledger([(thing, OUT)]), False)
        for thing in ([1, OUT], (1, list(OUT)), (1,), (1, OUT, OUT), (OUT, 1), OUT):
            self.assertIs(is_ledger([thing]), False)
            self.assertIs(is_ledger([(1, OUT), thing]), False)


class StandsTest(things.Refusals, unittest.TestCase):
    def not_out(self, day, rows, ledger):
        for order in self.orders(ledger):
            wrong = self.refused(NotOut, stands, order)
            self.assertEqual(wrong.day, day)
            self.is_alike(wrong.load, Load(rows))

    def lacks_at(self, day, house, rows, ledger):
        for order in self.orders(ledger):
            wrong = self.refused(LacksAt, stands, order)
            self.assertEqual((wrong.day, wrong.house), (day, house))
            self.is_alike(wrong.load, Load(rows))

    def orders(self, ledger):
        if len(ledger) < 6:
            return list(itertools.permutations(ledger))
        return [ledger, tuple(ledger), ledger[::-1], sorted(ledger)]

    def test_stands(self):
        for ledger in self.orders(STANDING):
            self.assertIs(stands(ledger), True)
            self.assertIs(stands(ledger=list(ledger)), True)
        for ledger in ([], (), [(0, PAID)], [(0, OUT)], [(1, PAID)] * 40):
            self.assertIs(stands(ledger), True)

    def test_what_comes_on_a_day_is_ahead_of_what_goes(self):
        for ledger in itertools.permutations([(5, OUT), (5, BACK), (5, HOME), (5, WASH)]):
            self.assertIs(stands(ledger), True)
        self.lacks_at(5, "a", [("a", "x", 2)], [(5, OUT), (5, BACK), (6, HOME), (5, WASH)])
        self.lacks_at(4, "b", [("a", "x", 2)], [(3, OUT), (5, BACK), (4, HOME), (5, WASH)])
        self.not_out(5, [("a", "x", 2)], [(6, OUT), (5, BACK)])

    def test_not_out(self):
        self.not_out(5, [("a", "x", 2)], [(5, BACK)])
        self.not_out(7, [("a", "x", 1)], [(3, OUT), (5, BACK), (6, BACK), (7, BACK), (9, BACK)])
        self.not_out(4, [("a", "x", 1), ("a", "y", 3), ("c", "x", 4)], [
            (3, OUT), (3, BACK), (4, ("back", "c", "a", "x", 4)), (4, ("back", "b", "a", "y", 1)),
            (4, ("back", "a", "a", "y", 2)), (4, ("back", "c", "c", "x", 4)), (5, ("out", "c", "x", 9))])
        self.not_out(3, [("a", "y", 2)], [(1, OUT), (3, ("back", "b", "a", "y", 2))])
        self.not_out(3, [("b", "x", 2)], [(1, OUT), (3, ("back", "b", "b", "x", 2))])

    def test_what_is_washed_must_go_out_anew(self):
        ledger = [(1, OUT), (2, ("back", "a", "a", "x", 5)), (3, ("wash", "a", "x", 5))]
        self.assertIs(stands(ledger), True)
        self.not_out(4, [("a", "x", 1)], ledger + [(4, ("back", "a", "a", "x", 1))])
        self.assertIs(stands(ledger + [(4, ("back", "a", "a", "x", 1)), (4, ("out", "a", "x", 1))]), True)

    def test_lacks_at(self):
        self.lacks_at(5, "a", [("a", "x", 2)], [(5, WASH)])
        self.lacks_at(5, "b", [("a", "x", 2)], [(5, HOME)])
        self.lacks_at(5, "b", [("a", "x", 1)], [(5, BROKEN)])
        self.lacks_at(5, "b", [("a", "x", 1)], [(5, changed(BROKEN, 5, "store"))])
        self.lacks_at(5, "b", [("a", "x", 1)], [(3, OUT), (4, BACK), (5, HOME), (5, BROKEN)])
        self.lacks_at(5, "b", [("a", "x", 3), ("c", "y", 7)], [
            (1, OUT), (2, BACK), (5, ("broken", "b", "a", "x", 4, "store")), (5, ("broken", "b", "a", "x", 1, "cart")),
            (5, ("home", "b", "c", "y", 7)), (6, WASH)])

    def test_the_first_day_then_the_least_house(self):
        self.lacks_at(4, "c", [("a", "x", 3)], [(5, WASH), (4, ("home", "c", "a", "x", 3))])
        self.lacks_at(4, "aa", [("b", "x", 3)], [
            (4, ("wash", "c", "x", 1)), (4, ("home", "aa", "b", "x", 3)), (4, ("home", "b", "a", "x", 2)), (5, WASH)])

    def test_lacking_in_one_store_does_not_hold_back_another(self):
        self.lacks_at(4, "b", [("a", "x", 2)], [(4, HOME), (4, WASH)])

    def test_both(self):
        back, home = (5, ("back", "b", "c", "x", 3)), ("home", "b", "a", "x", 2)
        self.not_out(5, [("c", "x", 3)], [back, (5, home)])
        self.not_out(5, [("c", "x", 3)], [back, (6, home)])
        self.lacks_at(4, "b", [("a", "x", 2)], [back, (4, home)])
        self.lacks_at(4, "b", [("a", "x", 2)], [back, (4, home), (4, WASH), (9, WASH)])

    def test_late_entries_are_as_in_time(self):
        ledger = [(9, WASH), (8, HOME), (7, BACK)]
        self.not_out(7, [("a", "x", 2)], ledger)
        self.assertIs(stands(ledger + [(0, OUT)]), True)
        self.not_out(7, [("a", "x", 2)], ledger + [(8, OUT)])

    def test_random_ones(self):
        source = random.Random(5)
        names, sorts, days = ["a", "b", "c"], ["x", "y"], range(6)
        for turn in range(1500):
            self.check(random_ledger(source, names, sorts, 1 + turn // 100), names, sorts, days)

    def test_random_ones_that_stand(self):
        source = random.Random(6)
        names, sorts, days = ["a", "b", "c"], ["x", "y"], range(6)
        for turn in range(40):
            ledger = []
            for entry in random_ledger(source, names, sorts, 20):
                if Told(ledger + [entry]).fault(names, sorts, days) is None:
                    ledger.append(entry)
            source.shuffle(ledger)
            self.assertIs(stands(ledger), True)
            self.check(ledger, names, sorts, days)

    def check(self, ledger, names, sorts, days):
        told = Told(ledger)
        fault = told.fault(names, sorts, days)
        if fault is None:
            self.assertIs(stands(ledger), True)
            for day, name in itertools.product(days, names):
                for sort in sorts:
                    self.assertEqual(out_on(ledger, name, sort, day), told.out_by(name, sort, day))
                kinds = itertools.product(names, sorts)
                lying = Load([kind + (told.stored_by(name, *kind, day),) for kind in kinds])
                self.is_alike(store_on(ledger, name, day), lying)
            return
        for deed, more in ((stands, []), (out_on, ["a", "x", 5]), (store_on, ["a", 5])):
            wrong = self.refused(fault[0], deed, ledger, *more)
            self.assertEqual((wrong.day, getattr(wrong, "house", None)), fault[1:3])
            self.is_alike(wrong.load, fault[3])


def random_ledger(source, names, sorts, size):
    """Entries that often stand, and often nearly do."""
    ledger = [(source.randrange(2), ("out", source.choice(names), source.choice(sorts), source.randrange(1, 9)))
              for one in range(size)]
    for one in range(size):
        word = source.choice(["out", "back", "back", "back", "home", "wash", "broken", "paid"])
        house, origin = source.sample(names, 2)
        sort, many, day = source.choice(sorts), source.randrange(1, 4), source.randrange(6)
        deed = {"out": (origin, sort, many), "back": (source.choice(names), origin, sort, many),
                "home": (house, origin, sort, many), "wash": (house, sort, many),
                "broken": (house, origin, sort, many, source.choice(["store", "cart"])), "paid": (house, origin, many)}
        ledger.append((day, (word,) + deed[word]))
    source.shuffle(ledger)
    return ledger


class OutOnAndStoreOnTest(things.Refusals, unittest.TestCase):
    def test_out_on(self):
        for day, told in ((0, 0), (2, 0), (3, 5), (4, 5), (5, 3), (8, 3), (9, 0), (10, 0), (9999, 0)):
            self.assertEqual(out_on(STANDING, "a", "x", day), told, day)
            self.assertEqual(out_on(day=day, sort="x", origin="a", ledger=tuple(STANDING[::-1])), told, day)
            self.assertEqual(out_on(STANDING, "b", "x", day), 0)
            self.assertEqual(out_on(STANDING, "a", "y", day), 0)
        self.assertEqual(out_on([], "a", "x", 5), 0)

    def test_store_on(self):
        for house, counts in (("b", {0: 0, 4: 0, 5: 2, 6: 2, 7: 0, 8: 0, 9: 1, 10: 1, 9999: 1}),
                              ("a", {0: 0, 7: 0, 9999: 0}), ("c", {0: 0, 9999: 0})):
            for day, many in counts.items():
                self.is_alike(store_on(STANDING, house, day), Load([("a", "x", many)]))
                self.is_alike(store_on(day=day, house=house, ledger=tuple(STANDING[::-1])), Load([("a", "x", many)]))
        self.assertIs(type(store_on(STANDING, "b", 5)), Load)
        self.is_alike(store_on([], "a", 5), Load())

    def test_a_store_by_origin_and_sort(self):
        ledger = [(1, ("out", "a", "x", 9)), (1, ("out", "b", "x", 9)), (1, ("out", "a", "y", 9)),
                  (2, ("back", "a", "b", "x", 3)), (2, ("back", "a", "a", "y", 4)), (3, ("back", "a", "a", "x", 5)),
                  (3, ("home", "a", "b", "x", 1)), (4, ("wash", "a", "y", 4)), (4, ("broken", "a", "a", "x", 2, "store"))]
        self.assertEqual(str(store_on(ledger, "a", 2)), "a y 4\nb x 3")
        self.assertEqual(str(store_on(ledger, "a", 3)), "a x 5\na y 4\nb x 2")
        self.assertEqual(str(store_on(ledger, "a", 4)), "a x 3\nb x 2")
        self.assertEqual(str(store_on(ledger, "b", 2)), "none")
        self.assertEqual(str(store_on(ledger, "b", 3)), "b x 1")

    def test_great_numbers(self):
        ledger = [(1, ("out", "a", "x", 999))] * 20 + [(2, ("back", "a", "a", "x", 999))] * 20
        self.assertEqual(out_on(ledger, "a", "x", 1), 20 * 999)
        self.assertEqual(store_on(ledger, "a", 2).kinds(), (("a", "x", 20 * 999),))


# Each function of a LEDGER, with what else it is handed, right and then wrong.
ALL = [(stands, [], []), (out_on, ["a", "x", 5], [1, 2, -1]), (store_on, ["a", 5], [1, -1])]


class RefusalsTest(things.Refusals, unittest.TestCase):
    def all_refuse(self, number, ledger):
        for deed, right, wrong in ALL:
            self.refused_with(NoRows, "number", number, deed, ledger, *right)
            self.refused_with(NoRows, "number", number, deed, ledger, *wrong)

    def test_what_is_no_row(self):
        for thing in [None] + things.NO_ROWS:
            self.all_refuse(None, thing)

    def test_wrong_entries(self):
        wrong = ANYTHING + [[1, OUT], (1, list(OUT)), (1,), (1, OUT, OUT), (OUT, 1), OUT, (1, OUT[:3]), (True, OUT),
                            (-1, OUT), (10000, OUT), (1, changed(OUT, 3, True)), (1, changed(OUT, 3, 1000))]
        for entry in wrong:
            self.all_refuse(0, [entry])
            # What would not stand is not looked at where an entry is none.
            self.all_refuse(2, ((5, WASH), (5, BACK), entry, None))
            self.all_refuse(39, [(1, PAID)] * 39 + [entry])

    def test_a_longer_one(self):
        for many in (41, 42, 100):
            self.all_refuse(40, [(1, PAID)] * many)
            self.all_refuse(40, ((5, WASH),) * many)
        self.all_refuse(40, [(1, PAID)] * 40 + [None])

    def test_not_out_and_lacks_at_ahead_of_the_rest(self):
        for error, ledger in ((NotOut, [(5, BACK)]), (LacksAt, [(5, WASH)])):
            for deed, right, wrong in ALL:
                self.assertEqual(self.refused(error, deed, ledger, *right).day, 5)
                self.assertEqual(self.refused(error, deed, ledger, *wrong).day, 5)
            # Behind the day that is asked for a ledger must stand, too.
            self.refused(error, out_on, ledger, "a", "x", 0)
            self.refused(error, store_on, ledger, "a", 0)
        self.refused(NotOut, out_on, day=None, sort=None, origin=None, ledger=[(5, BACK)])

    def test_no_name_then_no_day(self):
        for ledger in (STANDING, []):
            for thing in things.NO_NAMES:
                self.refused_with(NoName, "name", thing, out_on, ledger, thing, 1, -1)
                self.refused_with(NoName, "name", thing, out_on, ledger, "a", thing, -1)
                self.refused_with(NoName, "name", thing, store_on, ledger, thing, -1)
            for thing in things.NO_DAYS:
                self.refused_with(NoDay, "day", thing, out_on, ledger, "a", "x", thing)
                self.refused_with(NoDay, "day", thing, store_on, ledger, "a", thing)
        self.refused_with(NoName, "name", 1, out_on, day=-1, sort=2, origin=1, ledger=STANDING)
        self.refused_with(NoName, "name", 1, store_on, day=-1, house=1, ledger=STANDING)


class HandedInTest(things.Refusals, unittest.TestCase):
    def test_lists_stay_and_are_not_kept(self):
        ledger = STANDING[::-1]
        told = [stands(ledger), out_on(ledger, "a", "x", 5), store_on(ledger, "b", 5)]
        self.assertEqual(ledger, STANDING[::-1])
        wrong = self.refused(LacksAt, stands, ledger[:2])
        lack = str(wrong.load)
        again = repr(told)
        ledger[0] = (1, OUT)
        ledger.clear()
        self.assertEqual(repr(told), again)
        self.assertEqual(str(wrong.load), lack)

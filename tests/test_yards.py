import itertools
import random
import unittest

from stakecrates.debts import Debts
from stakecrates.elders import elder
from stakecrates.errors import LacksAt, NoBack, NoDay, NoDeed, NoName, NoRules, NotOut, TooMany
from stakecrates.ledgers import is_deed, out_on, stands, store_on
from stakecrates.loads import Load
from stakecrates.money import account, debts_on, given_back
from stakecrates.stakes import Stakes
from stakecrates.sums import sums_out
from stakecrates.yards import Yard
from tests import things
from tests.test_ledgers import random_ledger
from tests.test_money import NO_RULES

STAKES = Stakes([("x", 0, 10), ("x", 5, 25), ("y", 3, 15)])
RULES = (STAKES, "first", ("holder", "both"))
ANYTHING = things.NO_NAMES + things.NAMES
OUT = ("out", "a", "x", 5)
BACK = ("back", "b", "a", "x", 2)
STORY = [(5, OUT), (3, ("out", "a", "x", 4)), (6, BACK), (4, ("back", "c", "a", "x", 1)),
         (7, ("home", "b", "a", "x", 1)), (8, ("wash", "a", "x", 1)),
         (6, ("broken", "b", "a", "x", 1, "cart")), (6, ("paid", "a", "b", 7)), (6, BACK)]


def yard_of(entries, rules=RULES):
    yard = Yard(rules)
    for day, deed in entries:
        yard.enter(day, deed)
    return yard


class Asked(things.Refusals):
    def told(self, yard):
        """All that a yard tells."""
        answers = [len(yard), bool(yard), yard.ledger()]
        for day, house in itertools.product((0, 4, 6, 9999), "abc"):
            answers += [yard.out(house, "x", day), yard.store(house, day), yard.debts(day), yard.elder(house, "x", day)]
        for house, sort in itertools.product("abc", "xy"):
            answers += [yard.given(house, sort), yard.sums(house, sort)]
        return repr(answers)

    def refused_alike(self, error, yard, deed, /, *places, **names):
        """Refused, and behind it all as ahead."""
        told = self.told(yard)
        entries = yard.ledger()
        again = yard_of(entries, yard.rules)
        wrong = self.refused(error, deed, *places, **names)
        self.assertEqual(self.told(yard), told)
        self.assertEqual(yard.ledger(), entries)
        self.is_alike(yard, again)
        return wrong


class MadeTest(Asked, unittest.TestCase):
    def test_no_rules(self):
        for thing in NO_RULES:
            self.refused(NoRules, Yard, thing)
            self.refused(NoRules, Yard, rules=thing)

    def test_at_first(self):
        for yard in (Yard(RULES), Yard(rules=RULES)):
            self.assertEqual(yard.ledger(), ())
            self.assertEqual(len(yard), 0)
            self.assertIs(bool(yard), False)
            self.assertEqual((yard.out("a", "x", 5), yard.given("a", "x")), (0, ()))
            self.assertEqual((yard.elder("a", "x", 5), yard.sums("a", "x")), ((0, 0), (0, 0)))
            self.is_alike(yard.store("a", 5), Load())
            self.is_alike(yard.debts(5), Debts())


class EnterTest(Asked, unittest.TestCase):
    def test_numbers_from_0(self):
        yard = Yard(RULES)
        for number, (day, deed) in enumerate(STORY):
            told = yard.enter(day, deed) if number else yard.enter(deed=deed, day=day)
            self.assertIs(type(told), int)
            self.assertEqual(told, number)
            self.assertEqual(len(yard), number + 1)
            self.assertIs(bool(yard), True)
            self.assertEqual(yard.ledger(), tuple(STORY[:number + 1]))
            self.assertIs(type(yard.ledger()), tuple)

    def test_no_day_then_no_deed(self):
        yard = yard_of(STORY)
        for thing in things.NO_DAYS:
            wrong = self.refused_alike(NoDay, yard, yard.enter, thing, None)
            self.assertIs(wrong.day, thing)
            self.refused(NoDay, yard.enter, deed=OUT, day=thing)
        wrong_deeds = [list(OUT), OUT[:3], OUT + (1,), ("out", "a", "x", 0), ("out", "a", "x", 1000), (1, OUT),
                       ("out", "a", "x", True), ("home", "a", "a", "x", 1), ("broken", "a", "a", "x", 1, "house"),
                       ("paid", "a", "a", 5), ("Out", "a", "x", 5), "5 out a x 5"]
        for thing in ANYTHING + wrong_deeds:
            self.assertIs(is_deed(thing), False)
            self.refused_alike(NoDeed, yard, yard.enter, 5, thing)
            self.refused(NoDeed, yard.enter, deed=thing, day=0)

    def test_forty(self):
        yard = yard_of(STORY)
        for number in range(len(STORY), 40):
            self.assertEqual(yard.enter(number, ("paid", "a", "b", 1)), number)
        for deed in (OUT, ("paid", "a", "b", 1), ("wash", "c", "y", 9), ("back", "c", "c", "y", 9)):
            self.assertEqual(self.refused_alike(TooMany, yard, yard.enter, 5, deed).many, 40)
        self.refused_alike(NoDay, yard, yard.enter, -1, OUT)
        self.refused_alike(NoDeed, yard, yard.enter, 5, OUT[:3])
        yard.undo()
        self.refused_alike(NotOut, yard, yard.enter, 5, ("back", "c", "c", "y", 9))
        self.assertEqual(yard.enter(5, OUT), 39)
        self.refused(TooMany, yard.enter, 5, OUT)

    def test_not_out(self):
        yard = yard_of(STORY)
        wrong = self.refused_alike(NotOut, yard, yard.enter, 9, ("back", "b", "a", "x", 6))
        self.assertEqual((wrong.day, wrong.load.kinds()), (9, (("a", "x", 2),)))
        wrong = self.refused_alike(NotOut, yard, yard.enter, 9, ("back", "b", "b", "x", 6))
        self.assertEqual((wrong.day, wrong.load.kinds()), (9, (("b", "x", 6),)))

    def test_told_late(self):
        yard = yard_of(STORY)
        # On day 4 alone three are out, but on day 6 there would be too few.
        yard.enter(4, ("back", "c", "a", "x", 3))
        wrong = self.refused_alike(NotOut, yard, yard.enter, 4, ("back", "c", "a", "x", 1))
        self.assertEqual((wrong.day, wrong.load.kinds()), (4, (("a", "x", 1),)))
        yard.enter(3, OUT)
        self.assertEqual(yard.enter(4, ("back", "c", "a", "x", 4)), len(STORY) + 2)
        wrong = self.refused_alike(NotOut, yard, yard.enter, 4, ("back", "c", "a", "x", 3))
        self.assertEqual((wrong.day, wrong.load.kinds()), (4, (("a", "x", 2),)))
        wrong = self.refused_alike(LacksAt, yard, yard.enter, 6, ("home", "b", "a", "x", 4))
        self.assertEqual((wrong.day, wrong.house, wrong.load.kinds()), (6, "b", (("a", "x", 1),)))

    def test_lacks_at_behind_an_entry_told_late(self):
        yard = yard_of([(1, OUT), (2, BACK), (7, ("home", "b", "a", "x", 2))])
        for day in (2, 5, 7):
            wrong = self.refused_alike(LacksAt, yard, yard.enter, day, ("broken", "b", "a", "x", 1, "store"))
            self.assertEqual((wrong.day, wrong.house, wrong.load.kinds()), (7, "b", (("a", "x", 1),)))
        wrong = self.refused_alike(LacksAt, yard, yard.enter, 1, ("broken", "b", "a", "x", 1, "store"))
        self.assertEqual((wrong.day, wrong.house, wrong.load.kinds()), (1, "b", (("a", "x", 1),)))
        wrong = self.refused_alike(LacksAt, yard, yard.enter, 9, ("wash", "a", "x", 3))
        self.assertEqual((wrong.day, wrong.house, wrong.load.kinds()), (9, "a", (("a", "x", 1),)))


class UndoTest(Asked, unittest.TestCase):
    def test_taken_back(self):
        yard = Yard(RULES)
        told = [self.told(yard)]
        for day, deed in STORY:
            yard.enter(day, deed)
            told.append(self.told(yard))
        for number in range(len(STORY), 0, -1):
            self.assertEqual(self.told(yard), told[number])
            self.assertIsNone(yard.undo())
            self.assertEqual(yard.ledger(), tuple(STORY[:number - 1]))
        self.assertEqual(self.told(yard), told[0])
        self.refused_alike(NoBack, yard, yard.undo)
        self.refused(NoBack, yard.undo)
        self.assertEqual(yard.enter(5, OUT), 0)

    def test_none(self):
        yard = Yard(RULES)
        self.refused_alike(NoBack, yard, yard.undo)

    def test_the_number_is_told_again(self):
        yard = yard_of(STORY[:3])
        yard.undo()
        self.assertEqual(yard.enter(9, BACK), 2)
        self.assertEqual(yard.enter(9, BACK), 3)
        yard.undo()
        yard.undo()
        self.assertEqual(yard.enter(9, ("paid", "a", "b", 1)), 2)
        self.assertEqual(yard.ledger(), tuple(STORY[:2]) + ((9, ("paid", "a", "b", 1)),))

    def test_what_was_refused_is_none_to_take_back(self):
        yard = yard_of(STORY[:2])
        self.refused(NotOut, yard.enter, 0, BACK)
        yard.undo()
        self.assertEqual(yard.ledger(), tuple(STORY[:1]))


class AskedTest(Asked, unittest.TestCase):
    def check(self, yard, rules):
        ledger = yard.ledger()
        self.assertIs(stands(ledger), True)
        for day, house in itertools.product((0, 2, 4, 6, 9999), "abc"):
            for sort in "xy":
                self.assertEqual(yard.out(house, sort, day), out_on(ledger, house, sort, day))
                outs, backs, houses = account(rules, ledger, house, sort)
                self.assertEqual(yard.elder(house, sort, day), elder(outs, backs, day))
            self.is_alike(yard.store(house, day), store_on(ledger, house, day))
            self.is_alike(yard.debts(day), debts_on(rules, ledger, day))
        for house, sort in itertools.product("abc", "xy"):
            outs, backs, houses = account(rules, ledger, house, sort)
            self.assertEqual(yard.given(house, sort), given_back(rules, ledger, house, sort))
            self.assertEqual(yard.sums(house, sort), sums_out(outs, backs))

    def test_as_the_functions_tell(self):
        bears_told = (("holder", "both"), ("both", "origin"))
        for by, bears in itertools.product(("first", "last", "cheap", "dear"), bears_told):
            rules = (STAKES, by, bears)
            yard = Yard(rules)
            for day, deed in STORY:
                yard.enter(day, deed)
                self.check(yard, rules)

    def test_the_story(self):
        yard = yard_of(STORY)
        self.assertEqual([yard.out("a", "x", day) for day in range(8)], [0, 0, 0, 4, 3, 8, 4, 4])
        self.assertEqual(yard.out(day=6, sort="x", origin="a"), 4)
        self.assertEqual(yard.store("b", 6).kinds(), (("a", "x", 3),))
        self.assertEqual(yard.store(day=7, house="b").kinds(), (("a", "x", 2),))
        self.assertEqual(yard.given("a", "x"), (10, 10 + 10 + 10 + 25))
        self.assertEqual(yard.given(sort="x", origin="a"), (10, 55))
        # a owes b 55 for four, b owes a half of 25 for one that broke on a cart, and 7 that a paid.
        self.assertEqual(yard.debts(6).pairs(), (("a", "b", 55 - 13 - 7), ("a", "c", 10)))
        self.assertEqual(yard.debts(day=4).pairs(), (("a", "c", 10),))
        self.assertEqual(yard.elder("a", "x", 5), (0, 3))
        self.assertEqual(yard.elder(day=4, sort="x", origin="a"), (0, 3))
        self.assertEqual(yard.sums("a", "x"), (55, 100))
        self.assertEqual(yard.sums(sort="x", origin="a"), (55, 100))

    def test_random_ones(self):
        source = random.Random(51)
        for turn in range(12):
            rules = (STAKES, source.choice(("first", "last", "cheap", "dear")), ("both", "holder"))
            yard = Yard(rules)
            for day, deed in random_ledger(source, ["a", "b", "c"], ["x", "y"], 14):
                try:
                    stands(yard.ledger() + ((day, deed),))
                except (NotOut, LacksAt) as fault:
                    wrong = self.refused_alike(type(fault), yard, yard.enter, day, deed)
                    self.assertEqual((wrong.day, str(wrong.load)), (fault.day, str(fault.load)))
                else:
                    self.assertEqual(yard.enter(day, deed), len(yard.ledger()) - 1)
            self.check(yard, rules)

    def test_refused_as_those(self):
        yard = yard_of(STORY)
        for thing in things.NO_NAMES:
            for deed, more in ((yard.out, (-1,)), (yard.elder, (-1,)), (yard.given, ()), (yard.sums, ())):
                self.refused_with(NoName, "name", thing, deed, thing, 1, *more)
                self.refused_with(NoName, "name", thing, deed, "a", thing, *more)
                self.refused_with(NoName, "name", thing, deed, sort=1, origin=thing, **({"day": -1} if more else {}))
            self.refused_with(NoName, "name", thing, yard.store, thing, -1)
            self.refused_with(NoName, "name", thing, yard.store, day=-1, house=thing)
        for thing in things.NO_DAYS:
            for deed, names in ((yard.out, ["a", "x"]), (yard.elder, ["a", "x"]), (yard.store, ["a"]),
                                (yard.debts, [])):
                self.refused_with(NoDay, "day", thing, deed, *names, thing)
                self.refused_with(NoDay, "day", thing, deed, *names, day=thing)


class AlikeTest(Asked, unittest.TestCase):
    def test_orders_of_entering(self):
        deeds = [(1, OUT), (1, ("out", "b", "x", 2)), (2, BACK), (2, ("paid", "a", "b", 5)), (0, ("paid", "a", "b", 5))]
        orders = [order for order in itertools.permutations(deeds) if order.index((1, OUT)) < order.index((2, BACK))]
        for order in orders:
            self.is_alike(yard_of(order), yard_of(deeds))

    def test_all_deeds_of_one_day(self):
        deeds = [(6, deed) for day, deed in STORY]
        other = [deeds[at] for at in (1, 0, 8, 6, 7, 3, 2, 4, 5)]
        self.is_alike(yard_of(deeds), yard_of(other))

    def test_a_deed_twice(self):
        one = [(1, OUT), (2, BACK), (2, ("paid", "a", "b", 5))]
        self.is_unlike(yard_of(one), yard_of(one + [(2, BACK)]))
        self.is_alike(yard_of(one + [(2, BACK)]), yard_of([(1, OUT), (2, BACK)] + one[1:]))
        self.is_unlike(yard_of(one + [(2, BACK)]), yard_of(one + [(2, ("paid", "a", "b", 5))]))
        self.is_unlike(yard_of([(1, OUT), (1, OUT)]), yard_of([(1, ("out", "a", "x", 10))]))

    def test_other_deeds_and_days(self):
        one = [(1, OUT), (2, BACK)]
        for other in ([], one[:1], [(0, OUT), (2, BACK)], [(1, OUT), (3, BACK)], [(2, OUT), (2, BACK)],
                      [(1, OUT), (2, ("back", "b", "a", "x", 1))], [(1, OUT), (2, ("back", "c", "a", "x", 2))]):
            self.is_unlike(yard_of(one), yard_of(other))
            self.is_unlike(yard_of(other), yard_of(one))

    def test_rules(self):
        told = Stakes([("y", 3, 15), ("x", 7, 25), ("x", 5, 25), ("x", 0, 10), ("z", 4, 0)])
        self.is_alike(Yard(RULES), Yard((told, "first", ("holder", "both"))))
        for rules in ((Stakes(), "first", ("holder", "both")), (STAKES.put("x", 9, 1), "first", ("holder", "both")),
                      (STAKES, "last", ("holder", "both")), (STAKES, "first", ("both", "holder")),
                      (STAKES, "first", ("holder", "holder")), (STAKES, "first", ("origin", "both"))):
            self.is_unlike(Yard(RULES), Yard(rules))
            self.is_unlike(yard_of(STORY), yard_of(STORY, rules))

    def test_undone_ones(self):
        yard = yard_of(STORY)
        self.is_unlike(yard, yard_of(STORY[:-1]))
        yard.undo()
        self.is_alike(yard, yard_of(STORY[:-1]))

    def test_other_kinds(self):
        for yard in (Yard(RULES), yard_of(STORY)):
            for thing in ANYTHING + [RULES, yard.ledger(), STAKES, Load(), Debts(), Yard]:
                if not isinstance(thing, things.AlikeToAll):
                    self.is_unlike(yard, thing)
                    self.is_unlike(thing, yard)
            self.is_alike(yard, yard)
            self.assertIs(yard == things.AlikeToAll(), False)


class KeptTest(Asked, unittest.TestCase):
    def test_what_was_told_stays(self):
        yard = yard_of(STORY)
        told = [yard.ledger(), yard.store("b", 6), yard.given("a", "x"), yard.debts(6), yard.elder("a", "x", 5),
                yard.sums("a", "x")]
        again = repr(told)
        yard.enter(6, OUT)
        yard.enter(6, BACK)
        self.assertEqual(repr(told), again)
        for one in range(len(yard)):
            yard.undo()
        self.assertEqual(repr(told), again)

    def test_two_yards_of_the_same_rules(self):
        one, other = Yard(RULES), Yard(RULES)
        for day, deed in STORY:
            one.enter(day, deed)
            self.assertEqual(other.ledger(), ())
        other.enter(1, OUT)
        one.undo()
        self.assertEqual((len(one), len(other)), (len(STORY) - 1, 1))
        self.assertEqual(repr(RULES), "(Stakes(x 0 10, x 5 25, y 3 15), 'first', ('holder', 'both'))")

    def test_what_was_told_may_be_handed_in(self):
        yard = yard_of(STORY)
        self.assertIs(stands(yard.ledger()), True)
        self.is_alike(yard_of(yard.ledger()), yard)

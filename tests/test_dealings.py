import itertools
import unittest

from stakecrates.dealings import dealt, is_dealing, left, sum_back
from stakecrates.elders import dealt_to, elder
from stakecrates.errors import NoBacks, NoDay, NoDealing, NoMany, NoOuts, NoRule, Short
from stakecrates.loads import Load
from stakecrates.sums import each_back, sums_out
from tests import small, things

KEYS = {"first": lambda day, amount: day, "last": lambda day, amount: -day,
        "cheap": lambda day, amount: amount, "dear": lambda day, amount: -amount}
OUTS = ((2, 3, 15), (5, 2, 8), (6, 4, 8), (9, 1, 20))
BACKS = ((5, 1), (6, 4), (6, 2), (12, 1))
SMALL = list(itertools.product(small.all_outs((1, 3, 4), (1, 2), (0, 7)), small.all_backs((0, 3, 4), (1, 2), 2)))
NO_MANY = things.NO_WHOLES + [0, -1, 100000, 100001, 123456789012, 10 ** 5000]
SHORT_OUTS = ((3, 2, 5), (7, 9, 5))
SHORT_BACKS = ((3, 1), (5, 3), (6, 4))


class IsDealingTest(unittest.TestCase):
    def test_a_dealing(self):
        dealing = ((0, 0, 1), (1, 0, 2), (1, 1, 1), (1, 2, 1), (2, 2, 2), (3, 3, 1))
        self.assertIs(is_dealing(OUTS, BACKS, dealing), True)
        self.assertIs(is_dealing(list(OUTS), list(BACKS), dealing), True)
        self.assertIs(is_dealing(OUTS, list(BACKS), dealing), True)
        self.assertIs(is_dealing(thing=dealing, backs=BACKS, outs=list(OUTS)), True)

    def test_each_wrong_part(self):
        outs, backs = ((2, 3, 15), (5, 2, 8)), ((2, 1), (7, 3))
        self.assertIs(is_dealing(outs, backs, ((0, 0, 1), (1, 0, 2), (1, 1, 1))), True)
        for thing in (
                ((1, 0, 2), (0, 0, 1), (1, 1, 1)),
                ((0, 0, 1), (1, 1, 1), (1, 0, 2)),
                ((0, 0, 1), (1, 0, 1), (1, 0, 1), (1, 1, 1)),
                ((0, 1, 1), (1, 0, 3)),
                ((0, 0, 1), (1, 0, 2)),
                ((1, 0, 2), (1, 1, 1)),
                ((0, 0, 1), (1, 0, 2), (1, 1, 2)),
                ((0, 0, 1), (1, 0, 3)),
                ((0, 0, 1), (1, 1, 3)),
                ((0, 0, 1), (1, 0, 2), (1, 1, 1), (2, 1, 1)),
                ((0, 0, 1), (1, 0, 2), (1, 2, 1)),
                ((0, 0, 1), (1, 0, 2), (1, -1, 1)),
                ((0, 0, 1), (1, -1, 1), (1, 0, 2)),
                ((-1, 0, 2), (-1, 1, 1), (0, 0, 1)),
                ((-1, 0, 1), (0, 0, 1), (1, 0, 1), (1, 1, 2)),
                ((0, 0, 1), (1, 0, 3), (1, 1, 0)),
                ((0, 0, 1), (1, 0, 2), (1, 1, 1), (1, 2, 0)),
                ((0, 0, 2), (0, 1, -1), (1, 0, 1), (1, 1, 2)),
                ()):
            self.assertIs(is_dealing(outs, backs, thing), False, thing)
        self.assertIs(is_dealing(((2, 9, 1),), ((2, 3),), ((0, 0, 3),)), True)
        for thing in (((0, 0, 1), (0, 0, 2)), ((0, 0, 2), (0, 0, 1))):
            self.assertIs(is_dealing(((2, 9, 1),), ((2, 3),), thing), False, thing)
        self.assertIs(is_dealing(outs, ((2, 1), (7, 2)), ((0, 0, 1), (1, 0, 2))), True)
        self.assertIs(is_dealing(outs, ((2, 1), (7, 2)), ((0, 0, 1), (1, 0, 2), (1, 1, 0))), False)

    def test_no_back_is_dealt_to_an_out_behind_its_day(self):
        outs = ((2, 9, 1), (5, 9, 1), (6, 9, 1))
        for day, right in ((2, 1), (4, 1), (5, 2), (6, 3), (7, 3)):
            for out in range(3):
                self.assertIs(is_dealing(outs, ((day, 4),), ((0, out, 4),)), out < right)

    def test_things_of_any_kind(self):
        outs, backs = ((2, 3, 15), (5, 2, 8)), ((2, 1), (7, 1))
        right = ((0, 0, 1), (1, 1, 1))
        self.assertIs(is_dealing(outs, backs, right), True)
        wrong = things.NO_NAMES + things.NAMES + [list(right), ([0, 0, 1], (1, 1, 1)), (right,), right + ((),)]
        for place in range(3):
            for thing in things.NO_WHOLES:
                part = list(right[1])
                part[place] = thing
                wrong.append((right[0], tuple(part)))
        wrong += [((False, 0, 1), (1, 1, 1)), ((0, False, 1), (1, 1, 1)), ((0, 0, True), (1, 1, 1))]
        wrong += [((0, 0), (1, 1, 1)), ((0, 0, 1, 1), (1, 1, 1)), ((0, 0, 1), (1, 1)), ((0, 0, 1), ())]
        wrong += [(thing,) for thing in things.NO_NAMES + things.NAMES]
        for thing in wrong:
            self.assertIs(is_dealing(outs, backs, thing), False)
            self.assertIs(is_dealing(outs, (), thing), type(thing) is tuple and len(thing) == 0)

    def test_none_where_there_is_none(self):
        for thing in things.NO_NAMES + [((0, 0, 1), (1, 0, 1)), ((0, 0, 1), (1, 0, 3)), ((0, 0, 1),),
                                        ((0, 0, 1), (1, 0, 1), (1, 1, 2), (2, 1, 4))]:
            self.assertIs(is_dealing(SHORT_OUTS, SHORT_BACKS, thing), False)
            self.assertIs(is_dealing((), SHORT_BACKS, thing), False)

    def test_just_the_dealings(self):
        outs, backs = ((1, 2, 0), (3, 2, 7)), ((1, 1), (3, 2))
        parts = list(itertools.product(range(2), range(2), range(1, 3)))
        found = [thing for size in range(5) for thing in itertools.product(parts, repeat=size)
                 if is_dealing(outs, backs, thing)]
        self.assertEqual(sorted(found), sorted(small.all_dealings(outs, backs)))
        self.assertEqual(len(found), 2)

    def test_all_small_dealings(self):
        for outs, backs in SMALL:
            dealings = list(small.all_dealings(outs, backs))
            self.assertEqual(dealings == [], small.first_short(outs, backs) is not None)
            for dealing in dealings:
                self.assertIs(is_dealing(outs, backs, dealing), True)
                if len(dealing) > 1:
                    self.assertIs(is_dealing(outs, backs, dealing[::-1]), False)
                if dealing:
                    self.assertIs(is_dealing(outs, backs, dealing[1:]), False)


class DealtTest(things.Refusals, unittest.TestCase):
    def test_by_each_rule(self):
        for by, told in (
                ("first", ((0, 0, 1), (1, 0, 2), (1, 1, 2), (2, 2, 2), (3, 2, 1))),
                ("last", ((0, 1, 1), (1, 2, 4), (2, 0, 1), (2, 1, 1), (3, 3, 1))),
                ("cheap", ((0, 1, 1), (1, 1, 1), (1, 2, 3), (2, 0, 1), (2, 2, 1), (3, 0, 1))),
                ("dear", ((0, 0, 1), (1, 0, 2), (1, 1, 2), (2, 2, 2), (3, 3, 1)))):
            self.assertEqual(dealt(OUTS, BACKS, by), told, by)
            self.assertEqual(dealt(list(OUTS), list(BACKS), by=by), told, by)
            self.assertEqual(dealt(by=by, backs=BACKS, outs=OUTS), told, by)
            self.assertIs(type(dealt(OUTS, BACKS, by)), tuple)
            self.assertIs(type(dealt(OUTS, BACKS, by)[0]), tuple)

    def test_none_and_left_out_are_first(self):
        told = dealt(OUTS, BACKS, "first")
        self.assertEqual(dealt(OUTS, BACKS), told)
        self.assertEqual(dealt(OUTS, BACKS, None), told)
        self.assertEqual(dealt(OUTS, BACKS, by=None), told)

    def test_by_a_key(self):
        for key in (lambda day, amount: (amount, -day), lambda day, amount: (-amount, day), lambda day, amount: 0,
                    lambda day, amount: (), lambda day, amount: abs(day - 5), lambda day, amount: (day - 3) ** 2,
                    lambda day, amount: (day // 3, amount), lambda day, amount: -day - amount, max, min):
            self.assertEqual(dealt(OUTS, BACKS, key), small.bottle_by_bottle(OUTS, BACKS, key))
            self.assertEqual(dealt(list(OUTS), list(BACKS), by=key), small.bottle_by_bottle(OUTS, BACKS, key))
        self.assertEqual(dealt(OUTS, BACKS, lambda day, amount: 0), dealt(OUTS, BACKS, "first"))

    def test_a_key_is_told_day_and_amount_by_place(self):
        seen = set()
        dealt(OUTS, BACKS, lambda one, other: seen.add((one, other)) or one)
        self.assertLessEqual(seen, {(day, amount) for day, many, amount in OUTS})
        self.assertTrue(seen)

    def test_of_alike_ones_the_eldest(self):
        outs, backs = ((1, 1, 5), (2, 1, 5), (3, 1, 5)), ((3, 2),)
        for by in ("first", "cheap", "dear", lambda day, amount: amount):
            self.assertEqual(dealt(outs, backs, by), ((0, 0, 1), (0, 1, 1)))
        self.assertEqual(dealt(outs, backs, "last"), ((0, 1, 1), (0, 2, 1)))

    def test_those_that_went_out_by_then_alone(self):
        outs = ((1, 2, 9), (5, 2, 1))
        self.assertEqual(dealt(outs, ((4, 1), (5, 1)), "cheap"), ((0, 0, 1), (1, 1, 1)))
        self.assertEqual(dealt(outs, ((4, 1), (5, 1)), "last"), ((0, 0, 1), (1, 1, 1)))

    def test_two_backs_on_one_day_go_in_their_order(self):
        outs, backs = ((1, 2, 9), (5, 2, 1)), ((5, 1), (5, 3))
        self.assertEqual(dealt(outs, backs, "first"), ((0, 0, 1), (1, 0, 1), (1, 1, 2)))
        self.assertEqual(dealt(outs, backs, "cheap"), ((0, 1, 1), (1, 0, 2), (1, 1, 1)))

    def test_none(self):
        for by in (None, "first", "last", "cheap", "dear", lambda day, amount: day):
            self.assertEqual(dealt((), (), by), ())
            self.assertEqual(dealt([], [], by), ())
            self.assertEqual(dealt(OUTS, [], by), ())
            wrong = self.refused(Short, dealt, [], ((3, 4), (3, 1)), by)
            self.assertEqual((wrong.back, wrong.many), (0, 4))

    def test_small_ones_by_each_rule(self):
        keys = dict(KEYS)
        keys[lambda day, amount: (amount, -day)] = lambda day, amount: (amount, -day)
        for outs, backs in SMALL:
            short = small.first_short(outs, backs)
            for by, key in keys.items():
                if short is None:
                    self.assertEqual(dealt(outs, backs, by), small.bottle_by_bottle(outs, backs, key))
                else:
                    wrong = self.refused(Short, dealt, outs, backs, by)
                    self.assertEqual((wrong.back, wrong.many), short)

    def test_greatest_numbers(self):
        outs, backs = ((0, 99999, 9999), (9999, 99999, 0)), ((0, 1), (9999, 99999), (9999, 99998))
        self.assertEqual(dealt(outs, backs), ((0, 0, 1), (1, 0, 99998), (1, 1, 1), (2, 1, 99998)))
        self.assertEqual(sum_back(outs, backs, dealt(outs, backs)), 99999 * 9999)
        self.assertEqual(left(outs, backs, dealt(outs, backs)), (0, 0))


class SumBackAndLeftTest(unittest.TestCase):
    def test_of_told_dealings(self):
        for by, told, rest in (("first", 3 * 15 + 5 * 8, (0, 0, 1, 1)), ("last", 15 + 6 * 8 + 20, (2, 0, 0, 0)),
                               ("cheap", 2 * 15 + 6 * 8, (1, 0, 0, 1)), ("dear", 3 * 15 + 4 * 8 + 20, (0, 0, 2, 0))):
            dealing = dealt(OUTS, BACKS, by)
            self.assertEqual(sum_back(OUTS, BACKS, dealing), told)
            self.assertEqual(left(OUTS, BACKS, dealing), rest)
            self.assertIs(type(left(OUTS, BACKS, dealing)), tuple)
            self.assertEqual(sum_back(dealing=dealing, backs=list(BACKS), outs=list(OUTS)), told)
            self.assertEqual(left(dealing=dealing, backs=list(BACKS), outs=list(OUTS)), rest)

    def test_of_all_small_ones(self):
        for outs, backs in SMALL:
            for dealing in small.all_dealings(outs, backs):
                self.assertEqual(sum_back(outs, backs, dealing), small.sum_of(outs, dealing))
                self.assertEqual(left(outs, backs, dealing), small.rests(outs, dealing))

    def test_none(self):
        self.assertEqual(sum_back((), (), ()), 0)
        self.assertEqual(left((), (), ()), ())
        self.assertEqual(sum_back(OUTS, [], ()), 0)
        self.assertEqual(left(OUTS, [], ()), (3, 2, 4, 1))


# Each function of OUTS and BACKS, with what else it is handed, right and then wrong.
ALL = [(is_dealing, ["x"], [None]), (dealt, [], []), (dealt, [None], ["x"]), (sum_back, [()], [None]),
       (left, [()], [None]), (elder, [5], [-1]), (dealt_to, [5, 0], [-1, -1]), (sums_out, [], []), (each_back, [], []),
       (each_back, ["last"], ["x"])]


class RefusalsTest(things.Refusals, unittest.TestCase):
    def all_refuse(self, error, number, outs, backs):
        for deed, right, wrong in ALL:
            self.refused_with(error, "number", number, deed, outs, backs, *right)
            self.refused_with(error, "number", number, deed, outs, backs, *wrong)

    def test_what_is_no_row(self):
        for thing in [None] + things.NO_ROWS:
            self.all_refuse(NoOuts, None, thing, ())
            self.all_refuse(NoOuts, None, thing, thing)
            self.all_refuse(NoBacks, None, OUTS, thing)

    def test_wrong_outs(self):
        wrong = [None] + things.NO_ROWS + things.ROWS + [[9, 1, 1], (9, 1), (9, 1, 1, 1)]
        wrong += [(thing, 1, 1) for thing in things.NO_DAYS]
        wrong += [(9, thing, 1) for thing in NO_MANY]
        wrong += [(9, 1, thing) for thing in things.NO_AMOUNTS]
        for row in wrong:
            self.all_refuse(NoOuts, 0, [row], ())
            self.all_refuse(NoOuts, 2, ((1, 1, 1), (2, 1, 1), row, None), "x")

    def test_days_of_outs_rise(self):
        for day in (2, 1, 0):
            self.all_refuse(NoOuts, 2, [(1, 1, 1), (2, 1, 1), (day, 1, 1), (0, 1, 1)], ())
            self.all_refuse(NoOuts, 1, [(2, 1, 1), (day, 1, 1)], ())
        self.assertEqual(dealt([(0, 1, 0), (1, 99999, 9999), (9999, 1, 1)], ()), ())

    def test_wrong_backs(self):
        wrong = [None] + things.NO_ROWS + things.ROWS + [[9, 1], (9,), (9, 1, 1)]
        wrong += [(thing, 1) for thing in things.NO_DAYS]
        wrong += [(9, thing) for thing in NO_MANY]
        for row in wrong:
            self.all_refuse(NoBacks, 0, [], [row])
            self.all_refuse(NoBacks, 2, OUTS, ((1, 1), (2, 1), row, None))

    def test_days_of_backs_do_not_fall(self):
        for day in (1, 0):
            self.all_refuse(NoBacks, 2, OUTS, [(1, 1), (2, 1), (day, 1), (0, 1)])
            self.all_refuse(NoBacks, 1, OUTS, [(2, 1), (day, 1)])
        self.assertEqual(dealt(OUTS, ((2, 1), (2, 1), (2, 1))), ((0, 0, 1), (1, 0, 1), (2, 0, 1)))

    def test_outs_ahead_of_backs_however_handed_in(self):
        self.refused_with(NoOuts, "number", 1, dealt, backs=None, by="x", outs=[(1, 1, 1), 2])
        self.refused_with(NoOuts, "number", 0, dealt_to, many=None, day=None, backs=None, outs=[2])
        self.refused_with(NoBacks, "number", 0, dealt_to, many=None, day=None, backs=[1], outs=[])

    def test_no_rule_ahead_of_short(self):
        wrong = [text for text in things.NAMES + things.WRONG_TEXTS] + ["First", "firs", "first ", "older", "eldest"]
        for text in wrong:
            for outs, backs in ((OUTS, BACKS), ((), ()), (SHORT_OUTS, SHORT_BACKS)):
                self.refused_with(NoRule, "rule", text, dealt, outs, backs, text)
                self.refused_with(NoRule, "rule", text, each_back, outs, backs, by=text)

    def test_what_is_no_key(self):
        for thing in (0, 1, True, False, b"first", [], ["first"], (), ("first",), {}, {"first": 1}):
            self.refused_with(NoRule, "rule", thing, dealt, OUTS, BACKS, thing)
            self.refused_with(NoRule, "rule", thing, each_back, OUTS, BACKS, thing)

    def test_no_dealing(self):
        right = dealt(OUTS, BACKS)
        wrong = things.NO_NAMES + things.NAMES + [list(right), right[:-1], right[::-1], right + right[:1], Load()]
        for thing in wrong:
            self.refused(NoDealing, sum_back, OUTS, BACKS, thing)
            self.refused(NoDealing, left, OUTS, BACKS, dealing=thing)

    def test_no_dealing_ahead_of_short(self):
        for thing in ((), ((0, 0, 1), (1, 0, 1)), dealt(OUTS, BACKS), None):
            self.refused(NoDealing, sum_back, SHORT_OUTS, SHORT_BACKS, thing)
            self.refused(NoDealing, left, SHORT_OUTS, SHORT_BACKS, thing)

    def test_no_day_ahead_of_short_and_no_many(self):
        for thing in things.NO_DAYS:
            for outs, backs in ((OUTS, BACKS), ((), ()), (SHORT_OUTS, SHORT_BACKS)):
                self.refused_with(NoDay, "day", thing, elder, outs, backs, thing)
                self.refused_with(NoDay, "day", thing, dealt_to, outs, backs, thing, 0)
                self.refused_with(NoDay, "day", thing, dealt_to, many=None, day=thing, backs=backs, outs=outs)

    def test_short(self):
        calls = [(dealt, []), (dealt, ["last"]), (dealt, [lambda day, amount: day]), (elder, [0]), (elder, [9999]),
                 (dealt_to, [5, 0]), (dealt_to, [5, None]), (sums_out, []), (each_back, []), (each_back, ["dear"])]
        for outs, backs, back, many in (
                (SHORT_OUTS, SHORT_BACKS, 1, 2),
                ([], [(0, 99999)], 0, 99999),
                ([(5, 3, 1)], [(4, 2)], 0, 2),
                ([(5, 3, 1)], [(5, 3), (5, 1), (9, 5)], 1, 1),
                ([(5, 3, 1), (6, 1, 1)], [(5, 1), (6, 1), (7, 1), (8, 2), (9, 1)], 3, 1),
                ([(1, 99999, 1)], [(1, 99999), (1, 99999)], 1, 99999)):
            for deed, more in calls:
                wrong = self.refused(Short, deed, outs, backs, *more)
                self.assertEqual((wrong.back, wrong.many), (back, many))
                self.assertEqual((type(wrong.back), type(wrong.many)), (int, int))

    def test_no_many_last(self):
        for thing in things.NO_WHOLES + [-1, 10, 123456789012, 10 ** 5000]:
            self.refused_with(NoMany, "many", thing, dealt_to, OUTS, BACKS, 6, thing)
            self.refused_with(NoMany, "many", thing, dealt_to, [], [], 6, thing)

    def test_all_right_behind_a_refusal(self):
        outs, backs = list(OUTS), list(BACKS)
        self.refused(NoRule, dealt, outs, backs, "x")
        self.refused(NoMany, dealt_to, outs, backs, 6, 99)
        self.assertEqual((outs, backs), (list(OUTS), list(BACKS)))
        self.assertEqual(dealt(outs, backs), dealt(OUTS, BACKS))


class HandedInTest(unittest.TestCase):
    def test_lists_stay_and_are_not_kept(self):
        outs, backs = list(OUTS), list(BACKS)
        dealing = dealt(outs, backs, "last")
        told = [dealing, is_dealing(outs, backs, dealing), sum_back(outs, backs, dealing), left(outs, backs, dealing),
                elder(outs, backs, 6), dealt_to(outs, backs, 6, 1), sums_out(outs, backs), each_back(outs, backs)]
        again = repr(told)
        self.assertEqual((outs, backs), (list(OUTS), list(BACKS)))
        outs[0] = (0, 9, 9)
        outs.append((99, 1, 1))
        backs.clear()
        self.assertEqual(repr(told), again)

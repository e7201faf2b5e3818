import itertools
import random
import unittest

from stakecrates.checker import holds
from stakecrates.dealings import dealt, is_dealing
from stakecrates.debts import Debts
from stakecrates.elders import elder
from stakecrates.errors import NoBacks, NoDay, NoDebts, NoOuts, NoRows, Short, TooMany
from stakecrates.evening import evened, fewest
from stakecrates.loads import Load
from stakecrates.papers import (paper_dealt, paper_elder, paper_evened, paper_fewest, paper_least, paper_most,
                                paper_room, paper_start)
from stakecrates.rounds import least_room
from stakecrates.stores import least_start
from stakecrates.sums import sums_out
from tests import claims, small, things
from tests.test_evening import debts_of, small_sums
from tests.test_rounds import counted_need

OUTS = ((2, 3, 15), (5, 2, 8), (7, 4, 20))
BACKS = ((5, 1), (7, 2), (7, 3))
ANYTHING = things.NO_NAMES + things.NAMES


class Papers(things.Refusals):
    def plain(self, thing):
        """Whether a thing is made of tuples, whole numbers, texts, truths and None alone."""
        if type(thing) is tuple:
            return all(self.plain(part) for part in thing)
        return thing is None or type(thing) in (int, str, bool)

    def check(self, claim, told):
        """The claim is this one, its paper is taken, by the document's words too; the paper."""
        self.assertIs(type(told), tuple)
        self.assertEqual(len(told), 2)
        self.assertEqual(told[0], claim)
        self.assertTrue(self.plain(told))
        self.assertIs(holds(told[0], told[1]), True, told)
        self.assertIs(claims.taken(told[0], told[1]), True)
        return told[1]


SMALL = small.some_rows(41, 300, 150)


def many_rows():
    """Longer OUTS and BACKS that are not short."""
    source = random.Random(42)
    for turn in range(60):
        outs, backs, there = [], [], 0
        for day in range(source.randrange(40)):
            if source.randrange(3):
                outs.append((day, source.choice((1, 3, 99999)), source.choice((0, 1, 5, 5, 8, 9999))))
                there += outs[-1][1]
            while there and len(backs) < 40 and source.randrange(2):
                backs.append((day, source.randrange(1, min(there, 99999) + 1)))
                there -= backs[-1][1]
        yield tuple(outs), tuple(backs)


class DealtTest(Papers, unittest.TestCase):
    def test_told_with_its_dealing(self):
        for outs, backs in ((OUTS, BACKS), (list(OUTS), list(BACKS)), (list(OUTS), BACKS), (OUTS, list(BACKS))):
            paper = self.check(("dealt", OUTS, BACKS), paper_dealt(outs, backs))
            self.assertIs(is_dealing(OUTS, BACKS, paper), True)
            self.check(("dealt", OUTS, BACKS), paper_dealt(backs=backs, outs=outs))

    def test_none(self):
        self.assertEqual(paper_dealt([], []), (("dealt", (), ()), ()))
        self.assertEqual(paper_dealt(list(OUTS), []), (("dealt", OUTS, ()), ()))

    def test_short(self):
        backs = [(1, 2), (2, 2), (7, 9)]
        for outs, rows in ((list(OUTS), backs), (OUTS, tuple(backs))):
            self.assertEqual(self.check(("short", OUTS, tuple(backs), 2), paper_dealt(outs, rows)), 0)
        backs = ((2, 3), (4, 1), (4, 1), (9, 9))
        self.assertEqual(self.check(("short", OUTS, backs, 1), paper_dealt(OUTS, backs)), 1)
        self.assertEqual(self.check(("short", (), ((3, 4),), 4), paper_dealt((), [(3, 4)])), 0)

    def test_small_ones(self):
        for outs, backs in SMALL:
            first = small.first_short(outs, backs)
            if first is None:
                paper = self.check(("dealt", outs, backs), paper_dealt(list(outs), list(backs)))
                self.assertIn(paper, list(small.all_dealings(outs, backs)))
            else:
                paper = self.check(("short", outs, backs, first[1]), paper_dealt(list(outs), list(backs)))
                self.assertEqual(paper, first[0])
                wrong = self.refused(Short, dealt, outs, backs)
                self.assertEqual((wrong.back, wrong.many), first)


class ElderTest(Papers, unittest.TestCase):
    def test_days_ahead_between_and_behind(self):
        for day, least, greatest in ((0, 0, 0), (2, 0, 0), (3, 0, 3), (5, 0, 3), (6, 0, 3), (7, 0, 3), (8, 3, 3),
                                     (9999, 3, 3)):
            claim = ("elder", OUTS, BACKS, day, least, greatest)
            self.check(claim, paper_elder(OUTS, BACKS, day))
            self.check(claim, paper_elder(day=day, backs=list(BACKS), outs=list(OUTS)))

    def test_none(self):
        self.assertEqual(paper_elder([], [], 5), (("elder", (), (), 5, 0, 0), ((), (), None)))
        self.assertEqual(paper_elder(OUTS, [], 7), (("elder", OUTS, (), 7, 5, 5), ((), (), None)))

    def test_small_ones(self):
        for outs, backs in SMALL:
            lefts = [small.rests(outs, dealing) for dealing in small.all_dealings(outs, backs)]
            for day in range(9):
                counts = [sum(rest for out, rest in zip(outs, left) if out[0] < day) for left in lefts]
                if counts:
                    claim = ("elder", outs, backs, day, min(counts), max(counts))
                    self.check(claim, paper_elder(list(outs), backs, day))
                else:
                    self.short(outs, backs, day)

    def short(self, outs, backs, day):
        wrong = self.refused(Short, paper_elder, outs, backs, day)
        self.assertEqual((wrong.back, wrong.many), small.first_short(outs, backs))

    def test_many_rows(self):
        for outs, backs in many_rows():
            for day in (0, 3, 10, 20, 40):
                self.check(("elder", outs, backs, day) + elder(outs, backs, day), paper_elder(outs, backs, day))


class SumsTest(Papers, unittest.TestCase):
    def test_told_with_its_dealing(self):
        for outs, backs in ((OUTS, BACKS), (list(OUTS), list(BACKS))):
            self.check(("most", OUTS, BACKS, 60), paper_most(outs, backs))
            self.check(("least", OUTS, BACKS, 31), paper_least(outs, backs))
            self.check(("most", OUTS, BACKS, 60), paper_most(backs=backs, outs=outs))
            self.check(("least", OUTS, BACKS, 31), paper_least(backs=backs, outs=outs))

    def test_none(self):
        self.assertEqual(paper_most([], []), (("most", (), (), 0), ((), ())))
        self.assertEqual(paper_least([], []), (("least", (), (), 0), ((), ())))
        self.check(("most", OUTS, (), 141), paper_most(OUTS, ()))
        self.check(("least", OUTS, (), 141), paper_least(OUTS, ()))

    def test_amount_0_and_alike_amounts(self):
        outs, backs = ((1, 3, 0), (2, 3, 5), (3, 3, 0), (4, 3, 5)), ((2, 4), (4, 4))
        self.check(("most", outs, backs, 20), paper_most(outs, backs))
        self.check(("least", outs, backs, 0), paper_least(outs, backs))

    def test_small_ones(self):
        for outs, backs in SMALL:
            every = sum(many * amount for day, many, amount in outs)
            sums = [every - small.sum_of(outs, dealing) for dealing in small.all_dealings(outs, backs)]
            for word, deed, choose in (("most", paper_most, max), ("least", paper_least, min)):
                if sums:
                    self.check((word, outs, backs, choose(sums)), deed(list(outs), list(backs)))
                else:
                    wrong = self.refused(Short, deed, outs, backs)
                    self.assertEqual((wrong.back, wrong.many), small.first_short(outs, backs))

    def test_many_rows(self):
        for outs, backs in many_rows():
            least, most = sums_out(outs, backs)
            self.check(("most", outs, backs, most), paper_most(outs, backs))
            self.check(("least", outs, backs, least), paper_least(outs, backs))


class StartTest(Papers, unittest.TestCase):
    def load(self, *kinds):
        return Load(kinds)

    def told(self, rows):
        return tuple((day, load.kinds(), comes) for day, load, comes in rows)

    def test_rows_that_lack(self):
        rows = [(4, self.load(("a", "x", 3), ("b", "y", 2)), False), (3, self.load(("a", "x", 1)), True),
                (6, self.load(("b", "y", 1)), True), (4, self.load(("b", "y", 1)), True), (6, self.load(), False)]
        claim = ("start", self.told(rows), (("a", "x", 2), ("b", "y", 1)))
        for given in (rows, tuple(rows)):
            self.check(claim, paper_start(given))
            self.check(claim, paper_start(rows=given))

    def test_rows_that_do_not(self):
        self.assertEqual(paper_start([]), (("start", (), ()), ()))
        rows = ((3, self.load(("a", "x", 3)), True), (3, self.load(("a", "x", 3)), False))
        for given in (rows, rows[::-1], rows[:1]):
            self.assertEqual(paper_start(list(given)), (("start", self.told(given), ()), ()))

    def test_more_than_a_row_handed_in_has(self):
        great = Load([("a", "x", 99999)]).plus(Load([("a", "x", 99999)]))
        rows = [(3, great, False), (4, great, False)]
        self.check(("start", self.told(rows), (("a", "x", 4 * 99999),)), paper_start(rows))

    def test_random_ones(self):
        source = random.Random(43)
        for turn in range(300):
            rows = []
            for one in range(source.randrange(8)):
                kinds = [(source.choice("ab"), source.choice("xy"), source.randrange(4)) for kind in range(2)]
                rows.append((source.randrange(4), Load(kinds), source.random() < 0.5))
            self.check(("start", self.told(rows), least_start(rows).kinds()), paper_start(rows))


class RoomTest(Papers, unittest.TestCase):
    def test_some(self):
        self.assertEqual(paper_room([]), (("room", (), 0), ()))
        self.assertEqual(paper_room([(5, 3)]), (("room", ((5, 3),), 5), (0,)))
        stops = ((0, 5), (7, 1), (2, 2))
        for given in (stops, list(stops)):
            self.check(("room", stops, 9), paper_room(given))
            self.check(("room", stops, 9), paper_room(stops=given))

    def test_random_ones(self):
        source = random.Random(44)
        for turn in range(200):
            stops = tuple((source.randrange(9), source.randrange(9)) for one in range(source.randrange(6)))
            least = min(counted_need(order) for order in itertools.permutations(stops))
            paper = self.check(("room", stops, least), paper_room(list(stops)))
            self.assertEqual((least, paper), least_room(stops))


class DebtsTest(Papers, unittest.TestCase):
    def test_none(self):
        for debts in (Debts(), Debts([("a", "b", 4), ("b", "c", 4), ("c", "a", 4)])):
            self.assertEqual(paper_evened(debts), (("evened", (), 0), ()))
            self.assertEqual(paper_fewest(debts), (("fewest", (), 0), ()))

    def test_several(self):
        debts = Debts([("a", "b", 7), ("b", "a", 2), ("b", "c", 5), ("d", "a", 4)])
        balances = (("a", -1), ("c", 5), ("d", -4))
        self.check(("evened", balances, 5), paper_evened(debts=debts))
        self.check(("fewest", balances, 2), paper_fewest(debts=debts))

    def test_small_ones(self):
        for sums in small_sums():
            debts = debts_of(sums)
            balances = debts.balances()
            moved = sum(much for house, much in balances if much > 0)
            self.assertEqual(self.check(("evened", balances, moved), paper_evened(debts)), evened(debts))
            if len(balances) <= 6:
                goings = fewest(debts)[0]
                self.assertEqual(self.check(("fewest", balances, len(goings)), paper_fewest(debts)), goings)

    def test_many_houses(self):
        source = random.Random(45)
        for turn in range(50):
            sums = [source.randrange(-99, 100) for one in range(source.randrange(7, 20))]
            debts = debts_of(sums + [-sum(sums)])
            moved = sum(much for house, much in debts.balances() if much > 0)
            self.check(("evened", debts.balances(), moved), paper_evened(debts))


class RefusalsTest(Papers, unittest.TestCase):
    DEEDS = ((paper_dealt, ()), (paper_elder, (-1,)), (paper_elder, (5,)), (paper_most, ()), (paper_least, ()))

    def test_outs_then_backs(self):
        for deed, more in self.DEEDS:
            for thing in [None] + things.NO_ROWS:
                self.refused_with(NoOuts, "number", None, deed, thing, None, *more)
                self.refused_with(NoBacks, "number", None, deed, OUTS, thing, *more)
            for number, row in itertools.product((0, 2), ANYTHING + [[2, 3, 4], (1, 0, 3)]):
                self.refused_with(NoOuts, "number", number, deed, list(OUTS[:number]) + [row], None, *more)
                self.refused_with(NoBacks, "number", number, deed, OUTS, BACKS[:number] + (row,), *more)
            self.refused_with(NoOuts, "number", 1, deed, OUTS[::-1], BACKS, *more)
            self.refused_with(NoBacks, "number", 2, deed, OUTS, BACKS[1:] + BACKS[:1], *more)
        self.refused_with(NoOuts, "number", None, paper_elder, day=None, backs=None, outs=None)
        self.refused_with(NoOuts, "number", None, paper_dealt, backs=None, outs=None)

    def test_then_no_day_then_short(self):
        short = ((1, 2), (2, 3))
        for thing in things.NO_DAYS:
            self.refused_with(NoDay, "day", thing, paper_elder, OUTS, short, thing)
        for deed, more in ((paper_elder, (5,)), (paper_most, ()), (paper_least, ())):
            wrong = self.refused(Short, deed, OUTS, short, *more)
            self.assertEqual((wrong.back, wrong.many), (0, 2))
            wrong = self.refused(Short, deed, OUTS, ((2, 2), (3, 3), (3, 1)), *more)
            self.assertEqual((wrong.back, wrong.many), (1, 2))

    def test_no_rows(self):
        load = Load()
        for deed, right, others in ((paper_start, (3, load, True), [(3, load, 1), (3, (), True), [3, load, True]]),
                                    (paper_room, (3, 4), [(3, 1000), (-1, 4), (True, 4), [3, 4], (3, 4, 5)])):
            for thing in [None] + things.NO_ROWS:
                self.refused_with(NoRows, "number", None, deed, thing)
            for thing in ANYTHING + others:
                self.refused_with(NoRows, "number", 0, deed, [thing, thing])
                self.refused_with(NoRows, "number", 1, deed, (right, thing))

    def test_no_debts_then_too_many(self):
        for thing in ANYTHING + [Load(), Debts]:
            self.refused(NoDebts, paper_evened, thing)
            self.refused(NoDebts, paper_fewest, thing)
        for many in (7, 8, 12):
            debts = debts_of([1] * (many - 1) + [1 - many])
            self.refused_with(TooMany, "many", many, paper_fewest, debts)
            self.check(("evened", debts.balances(), many - 1), paper_evened(debts))
        self.check(("fewest", debts_of([1] * 5 + [-5]).balances(), 5), paper_fewest(debts_of([1] * 5 + [-5])))


class HandedInTest(unittest.TestCase):
    def test_lists_stay_and_are_not_kept(self):
        outs, backs, stops = list(OUTS), list(BACKS), [(0, 5), (7, 1)]
        rows = [(4, Load([("a", "x", 3)]), False), (3, Load([("a", "x", 1)]), True)]
        told = [paper_dealt(outs, backs), paper_elder(outs, backs, 7), paper_most(outs, backs),
                paper_least(outs, backs), paper_start(rows), paper_room(stops), paper_dealt([], backs)]
        self.assertEqual((outs, backs, stops), (list(OUTS), list(BACKS), [(0, 5), (7, 1)]))
        self.assertEqual(repr(rows), "[(4, Load(a x 3), False), (3, Load(a x 1), True)]")
        again = repr(told)
        for one in (outs, backs, stops, rows):
            one.clear()
        self.assertEqual(repr(told), again)

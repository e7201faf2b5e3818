import ast
import itertools
import pathlib
import random
import subprocess
import sys
import unittest

from stakecrates.checker import holds
from stakecrates.debts import Debts
from stakecrates.loads import Load
from stakecrates.stakes import Stakes
from tests import claims, small, things
from tests.test_evening import partings
from tests.test_rounds import counted_need

FOLDER = pathlib.Path(__file__).resolve().parent.parent / "stakecrates"
OUTS = ((2, 3, 15), (5, 2, 8), (7, 4, 20))
BACKS = ((5, 1), (7, 2), (7, 3))
KINDS = (("a", "x", 2), ("b", "y", 1))
ROWS = ((4, (("a", "x", 3), ("b", "y", 2)), False), (3, (("a", "x", 1),), True), (6, (("b", "y", 1),), True),
        (4, (("b", "y", 1),), True), (6, (), False))
BALANCES = (("a", -5), ("b", 3), ("c", 2), ("d", -4), ("e", 4))
# Of each word claims that are true, with a right paper.
TRUE = [
    (("dealt", OUTS, BACKS), ((0, 0, 1), (1, 0, 1), (1, 1, 1), (2, 0, 1), (2, 2, 2))),
    (("dealt", OUTS, ()), ()),
    (("dealt", (), ()), ()),
    (("short", OUTS, ((1, 2), (2, 1), (7, 9)), 2), 0),
    (("short", OUTS, ((2, 2), (3, 2), (4, 1), (7, 5)), 2), 2),
    (("short", (), ((9999, 99999),), 99999), 0),
    (("elder", OUTS, BACKS, 7, 0, 3), (((0, 1, 1), (1, 1, 1), (1, 2, 1), (2, 0, 3)),
                                       ((0, 1, 1), (1, 2, 2), (2, 1, 1), (2, 2, 2)), 2)),
    (("elder", OUTS, BACKS, 5, 0, 3), (((0, 0, 1), (1, 0, 2), (2, 2, 3)),
                                       ((0, 1, 1), (1, 2, 2), (2, 1, 1), (2, 2, 2)), None)),
    (("elder", OUTS, ((4, 2),), 5, 1, 1), (((0, 0, 2),), ((0, 0, 2),), 0)),
    (("elder", (), (), 0, 0, 0), ((), (), None)),
    (("most", OUTS, BACKS, 60), (((0, 1, 1), (1, 1, 1), (1, 2, 1), (2, 0, 3)), (2, 2, 2))),
    (("most", OUTS, ((5, 2), (7, 1)), 110), (((0, 1, 2), (1, 0, 1)), (1, 1, None))),
    (("most", (), (), 0), ((), ())),
    (("most", ((1, 2, 0),), ((1, 1),), 0), (((0, 0, 1),), ())),
    (("least", OUTS, BACKS, 31), (((0, 0, 1), (1, 2, 2), (2, 0, 1), (2, 2, 2)), (None, None, 2))),
    (("least", OUTS, ((5, 2), (7, 1)), 91), (((0, 0, 2), (1, 2, 1)), (None, None, 0))),
    (("least", (), (), 0), ((), ())),
    (("least", ((1, 2, 0),), ((1, 1),), 0), (((0, 0, 1),), ())),
    (("start", ROWS, KINDS), (0, 3)),
    (("start", (), ()), ()),
    (("start", ROWS[1:3], ()), ()),
    (("room", ((0, 5), (7, 1), (2, 2)), 9), (1, 2, 0)),
    (("room", ((0, 5), (3, 1), (2, 2)), 8), (1, 2, 0)),
    (("room", (), 0), ()),
    (("evened", BALANCES, 9), (("d", "e", 4), ("a", "b", 3), ("a", "c", 2))),
    (("evened", BALANCES, 9), (("d", "b", 3), ("d", "c", 1), ("a", "c", 1), ("a", "e", 4))),
    (("evened", (), 0), ()),
    (("fewest", BALANCES, 3), (("d", "e", 4), ("a", "b", 3), ("a", "c", 2))),
    (("fewest", (), 0), ()),
]
WORDS = ("dealt", "short", "elder", "most", "least", "start", "room", "evened", "fewest")
ANYTHING = things.NO_NAMES + things.NAMES + [things.deep(10), Load(), Load([("a", "x", 2)]), Stakes(), Debts(),
                                             (None,), (None, None, None), ((), ()), ((), (), None), 10 ** 5000]


class TrueClaimsTest(unittest.TestCase):
    def test_all_are_taken(self):
        self.assertEqual({claim[0] for claim, paper in TRUE}, set(WORDS))
        for claim, paper in TRUE:
            self.assertIs(holds(claim, paper), True, (claim, paper))
            self.assertIs(holds(paper=paper, claim=claim), True)
            self.assertIs(claims.taken(claim, paper), True)

    def test_each_thing_put_otherwise(self):
        for claim, paper in TRUE:
            for other in claims.put_otherwise(claim):
                self.assertIs(holds(other, paper), claims.taken(other, paper), (other, paper))
            for other in claims.put_otherwise(paper):
                self.assertIs(holds(claim, other), claims.taken(claim, other), (claim, other))

    def test_what_is_written_otherwise_is_none(self):
        for claim, paper in TRUE:
            for other in claims.miswritten(claim):
                self.assertIs(holds(other, paper), False, (other, paper))
            for other in claims.miswritten(paper):
                self.assertIs(holds(claim, other), False, (claim, other))

    def test_a_part_of_a_claim_more_or_less(self):
        for claim, paper in TRUE:
            for at in range(len(claim)):
                self.assertIs(holds(claim[:at] + claim[at + 1:], paper), False)
                self.assertIs(holds(claim[:at], paper), False)
            for more in (None, 0, (), paper, claim):
                self.assertIs(holds(claim + (more,), paper), False)
            self.assertIs(holds((claim,), paper), False)
            self.assertIs(holds((claim, paper), paper), False)

    def test_a_number_in_a_claim_one_more_or_less(self):
        for claim, paper in TRUE:
            for at in range(2, len(claim)):
                if type(claim[at]) is int and (claim[0], at) != ("elder", 3):
                    for many in (claim[at] + 1, claim[at] - 1, -1, claim[at] + 10 ** 12):
                        self.assertIs(holds(claim[:at] + (many,) + claim[at + 1:], paper), False)

    def test_other_words(self):
        for claim, paper in TRUE:
            for word in ("", "Dealt", "deal", "dealt ", "none", None, 0, True, b"dealt", ("dealt",), ["dealt"], {}):
                self.assertIs(holds((word,) + claim[1:], paper), False)
            for word in WORDS:
                other = (word,) + claim[1:]
                self.assertIs(holds(other, paper), claims.taken(other, paper))

    def test_each_claim_with_each_paper(self):
        for (claim, one), (other, paper) in itertools.product(TRUE, repeat=2):
            self.assertIs(holds(claim, paper), claims.taken(claim, paper), (claim, paper))


class AnyKindTest(unittest.TestCase):
    def test_claims_and_papers_of_any_kind(self):
        for thing in ANYTHING:
            for other in ANYTHING + [paper for claim, paper in TRUE]:
                self.assertIs(holds(thing, other), False)

    def test_papers_of_any_kind(self):
        for claim, paper in TRUE:
            for thing in ANYTHING:
                self.assertIs(holds(claim, thing), claims.taken(claim, thing))
                if type(paper) is tuple:
                    for at in range(len(paper)):
                        other = paper[:at] + (thing,) + paper[at + 1:]
                        self.assertIs(holds(claim, other), claims.taken(claim, other))

    def test_parts_of_any_kind(self):
        for claim, paper in TRUE:
            for at, thing in itertools.product(range(len(claim)), ANYTHING):
                other = claim[:at] + (thing,) + claim[at + 1:]
                self.assertIs(holds(other, paper), claims.taken(other, paper))
                if type(claim[at]) is tuple:
                    for row in range(len(claim[at])):
                        rows = claim[at][:row] + (thing,) + claim[at][row + 1:]
                        self.assertIs(holds(claim[:at] + (rows,) + claim[at + 1:], paper), False)

    def test_words_alone(self):
        for word, size, thing in itertools.product(WORDS, range(7), ANYTHING):
            claim = (word,) + (thing,) * size
            for paper in ((), None, 0, thing, (thing, thing), (thing, thing, thing)):
                self.assertIs(holds(claim, paper), claims.taken(claim, paper))


class SmallRowsTest(unittest.TestCase):
    """What is taken is true, and of what is true some paper is taken, among all dealings."""

    def setUp(self):
        rows = small.some_rows(31, 260, 60)
        self.rows = [(outs, backs, list(small.all_dealings(outs, backs))) for outs, backs in rows]

    def test_dealt(self):
        for outs, backs, dealings in self.rows:
            for dealing in dealings:
                self.assertIs(holds(("dealt", outs, backs), dealing), True)
            for other in self.rows[:40]:
                for dealing in other[2][:5]:
                    self.assertIs(holds(("dealt", outs, backs), dealing), dealing in dealings)

    def test_short(self):
        for outs, backs, dealings in self.rows:
            numbers = [number for number, many in itertools.product(range(-1, 4), range(-1, 9))
                       if holds(("short", outs, backs, many), number)]
            self.assertEqual(not dealings, len(numbers) > 0)
            self.assertEqual(len(numbers), len(set(numbers)))
            first = small.first_short(outs, backs)
            if first is not None:
                self.assertEqual(min(numbers), first[0])
                self.assertIs(holds(("short", outs, backs, first[1]), first[0]), True)

    def test_elder(self):
        for outs, backs, dealings in self.rows:
            for day in range(0, 8, 2):
                lefts = {}
                for dealing in dealings:
                    rests = small.rests(outs, dealing)
                    lefts[sum(rest for out, rest in zip(outs, rests) if out[0] < day)] = dealing
                taken = set()
                for one, other in itertools.product(lefts, repeat=2):
                    for number in [None] + list(range(len(backs))):
                        if holds(("elder", outs, backs, day, one, other), (lefts[one], lefts[other], number)):
                            taken.add((one, other))
                self.assertEqual(taken, {(min(lefts), max(lefts))} if lefts else set())

    def test_sums(self):
        for outs, backs, dealings in self.rows:
            every = sum(many * amount for day, many, amount in outs)
            amounts = len({amount for day, many, amount in outs if amount})
            sums = {every - small.sum_of(outs, dealing): dealing for dealing in dealings}
            for word, choose in (("most", max), ("least", min)):
                taken = set()
                for much, dealing in sums.items():
                    for times in itertools.product([None] + list(range(len(backs))), repeat=amounts):
                        if holds((word, outs, backs, much), (dealing, times)):
                            taken.add(much)
                self.assertEqual(taken, {choose(sums)} if sums else set())


class DealingsTest(unittest.TestCase):
    CLAIM = ("dealt", ((1, 5, 9), (3, 5, 9)), ((2, 2), (3, 4)))

    def test_all_of_each_back_at_most_of_each_out(self):
        for paper, told in ((((0, 0, 2), (1, 0, 3), (1, 1, 1)), True), (((0, 0, 2), (1, 0, 4)), False),
                            (((0, 0, 2), (1, 1, 3)), False), (((0, 0, 1), (1, 1, 4)), False),
                            (((0, 0, 3), (1, 1, 3)), False), (((0, 0, 2),), False), (((1, 1, 4),), False),
                            (((0, 1, 2), (1, 1, 3)), False), (((0, 0, 2), (1, 1, 4), (1, 0, 0)), False),
                            (((0, 0, 2), (1, 0, 0), (1, 1, 4)), False), (((0, 0, 2), (1, 0, -1), (1, 1, 5)), False)):
            self.assertIs(holds(self.CLAIM, paper), told, paper)

    def test_rising_each_two_once(self):
        for paper, told in ((((0, 0, 2), (1, 0, 1), (1, 1, 3)), True), (((0, 0, 2), (1, 1, 3), (1, 0, 1)), False),
                            (((1, 0, 1), (1, 1, 3), (0, 0, 2)), False), (((0, 0, 2), (1, 1, 2), (1, 1, 2)), False),
                            (((0, 0, 2), (1, 1, 1), (1, 1, 3)), False), (((0, 0, 1), (0, 0, 1), (1, 1, 4)), False)):
            self.assertIs(holds(self.CLAIM, paper), told, paper)

    def test_days_and_bounds_of_rows(self):
        for outs, told in ((((1, 1, 0),), True), (((9999, 99999, 9999),), True), (((0, 1, 0), (1, 1, 0)), True),
                           (((1, 1, 0), (1, 1, 0)), False), (((2, 1, 0), (1, 1, 0)), False), (((10000, 1, 0),), False),
                           (((1, 100000, 0),), False), (((1, 1, 10000),), False), (((1, 0, 0),), False),
                           (((-1, 1, 0),), False), (((1, 1, -1),), False)):
            self.assertIs(holds(("dealt", outs, ()), ()), told, outs)
        for backs, told in ((((9, 2), (9, 2)), True), (((8, 2), (9, 2)), True), (((9, 2), (8, 2)), False)):
            paper = ((0, 0, 2), (1, 0, 2))
            self.assertIs(holds(("dealt", ((1, 9, 0),), backs), paper), told)
        for back, many in (((9, 99999), 99999), ((9999, 1), 1)):
            self.assertIs(holds(("dealt", ((1, 99999, 0),), (back,)), ((0, 0, many),)), True)
        for back, many in (((10000, 1), 1), ((-1, 1), 1), ((9, 100000), 100000), ((9, 0), 0)):
            self.assertIs(holds(("dealt", ((0, 99999, 0), (1, 99999, 0)), (back,)), ((0, 1, many),)), False)

    def test_short_of_any_back(self):
        claim = ("short", ((2, 3, 15),), ((1, 1), (1, 1), (2, 1), (2, 1)))
        for number, many in enumerate((1, 2, 0, 1)):
            for told in range(-1, 4):
                self.assertIs(holds(claim + (told,), number), told == many and many > 0)
        self.assertIs(holds(claim + (1,), 4), False)
        self.assertIs(holds(claim + (1,), -1), False)


class SumsTest(unittest.TestCase):
    def test_counts_below_0(self):
        # With a BACK that bounds nothing a count is below 0; then the sum isn't reached.
        claim, paper = ("most", ((1, 5, 3), (2, 5, 9)), ((2, 1),), 57), ((0, 0, 1),)
        for times in itertools.product((None, 0), repeat=2):
            self.assertIs(holds(claim, (paper, times)), times == (0, None))
        claim, paper = ("least", ((1, 5, 3), (2, 5, 9)), ((1, 1),), 57), ((0, 0, 1),)
        for times in itertools.product((None, 0), repeat=2):
            self.assertIs(holds(claim, (paper, times)), times == (None, 0))

    def test_another_dealing_is_not_enough(self):
        outs, backs = ((1, 2, 3), (2, 2, 9)), ((2, 2),)
        for dealing, much in ((((0, 0, 2),), 18), (((0, 0, 1), (0, 1, 1)), 12), (((0, 1, 2),), 6)):
            for word in ("most", "least"):
                taken = [times for times in itertools.product((None, 0), repeat=2)
                         if holds((word, outs, backs, much), (dealing, times))]
                self.assertEqual(len(taken) > 0, much == {"most": 18, "least": 6}[word])


class StartTest(unittest.TestCase):
    def rows(self, *rows):
        return tuple((day, (("a", "x", many),) if many else (), comes) for day, many, comes in rows)

    def check(self, many, right, *rows):
        """Just this start is right, with a row of just these numbers."""
        told = self.rows(*rows)
        for start in range(many + 4):
            kinds = (("a", "x", start),) if start else ()
            for number in range(-1, len(rows) + 1):
                paper = (number,) if start else ()
                self.assertIs(holds(("start", told, kinds), paper), start == many and (not many or number in right))

    def test_several_on_one_day(self):
        self.check(3, (0, 1, 2), (4, 5, False), (4, 3, True), (4, 1, False))
        self.check(0, (), (4, 3, False), (4, 3, True))
        self.check(1, (0, 2), (4, 3, False), (3, 1, True), (4, 1, True))
        self.check(2, (1, 3), (5, 1, True), (4, 1, False), (3, 0, True), (4, 1, False))

    def test_any_row_up_to_whose_day_it_is_so(self):
        self.check(2, (0, 1, 3), (4, 2, False), (5, 0, False), (6, 1, True), (7, 1, False), (1, 0, True))

    def test_nothing_may_lack(self):
        rows = self.rows((2, 3, False), (4, 2, True), (6, 1, False))
        self.assertIs(holds(("start", rows, (("a", "x", 2),)), (2,)), False)
        self.assertIs(holds(("start", rows, (("a", "x", 3),)), (0,)), True)
        self.assertIs(holds(("start", rows, ()), ()), False)
        self.assertIs(holds(("start", rows, (("a", "x", 3), ("a", "y", 1))), (0, 0)), False)

    def test_kinds(self):
        one, other, third = ("a", "x", 1), ("a", "y", 2), ("b", "a", 100000)
        for kinds, told in (((one, other, third), True), ((one, third, other), False), ((other, one, third), False),
                            ((one, one, other, third), False), ((one, ("a", "x", 2)), False),
                            ((("a", "x", 0), other), False), ((("A", "x", 1), third), False)):
            rows = ((3, kinds, False),)
            self.assertIs(holds(("start", rows, kinds), (0,) * len(kinds)), told)
            self.assertIs(holds(("start", ((3, kinds, True),), ()), ()), told)


class RoomTest(unittest.TestCase):
    def test_neither_all_drops_nor_all_takes(self):
        stops = ((0, 10), (10, 0))
        for room in range(25):
            self.assertIs(holds(("room", stops, room), (1, 0)), room == 10)
            self.assertIs(holds(("room", stops, room), (0, 1)), False)
        stops = ((1, 5), (6, 0), (0, 1))
        for order, room in itertools.product(claims.orders(3), range(15)):
            self.assertIs(holds(("room", stops, room), order), order[0] == 1 and room == 7, order)

    def test_against_all_orders(self):
        source = random.Random(33)
        for turn in range(60):
            stops = tuple((source.randrange(5), source.randrange(5)) for one in range(source.randrange(5)))
            needs = {order: counted_need([stops[number] for number in order]) for order in claims.orders(len(stops))}
            for order in needs:
                for room in range(25):
                    told = needs[order] == room == min(needs.values())
                    self.assertIs(holds(("room", stops, room), order), told)

    def test_orders(self):
        claim = ("room", ((1, 1), (2, 2), (3, 3)), 6)
        for order in claims.orders(3):
            self.assertIs(holds(claim, order), True)
            self.assertIs(holds(claim, list(order)), False)
        for order in ((), (0, 1), (0, 1, 1), (0, 1, 3), (-1, 0, 1), (0, 1, 2, 2), (0, 1, 2, 3), (1, 2, 3),
                      (0, True, 2), (False, 1, 2), (0, 1, None)):
            self.assertIs(holds(claim, order), False)
        for stops, room in ((((1000, 0),), 1000), (((0, 1000),), 1000), (((-1, 0),), 0), (((0, -1),), 0)):
            self.assertIs(holds(("room", stops, room), (0,)), False)
        self.assertIs(holds(("room", ((999, 999),), 999), (0,)), True)


class DebtsTest(unittest.TestCase):
    def both(self, balances, goings):
        """Whether evened, and fewest, take these by what is moved, and how many they are."""
        moved = sum(going[2] for going in goings)
        return holds(("evened", balances, moved), goings), holds(("fewest", balances, len(goings)), goings)

    def test_one_going_too_many(self):
        balances = (("a", -5), ("b", 5))
        for goings, told in (((("a", "b", 5),), (True, True)), ((("a", "b", 2), ("a", "b", 3)), (True, False)),
                             ((("a", "b", 5), ("a", "b", 1), ("b", "a", 1)), (False, False)),
                             ((("a", "b", 6), ("b", "a", 1)), (False, False)),
                             ((("a", "c", 5), ("c", "b", 5)), (False, False)),
                             ((("a", "b", 5), ("c", "c", 1)), (False, False)),
                             ((("a", "b", 5), ("b", "b", 1)), (False, False)),
                             ((("b", "a", 5),), (False, False)), ((("a", "b", 4),), (False, False)),
                             ((), (False, False)), ((("a", "b", 5), ("a", "b", 0)), (False, False)),
                             ((("a", "b", 6), ("a", "b", -1)), (False, False)),
                             ((("a", "b", 5), ("c", "d", 1)), (False, False))):
            self.assertEqual(self.both(balances, goings), told, goings)

    def test_more_moved_by_as_few(self):
        # Fewest asks for the number of goings alone.
        balances = (("a", -1), ("b", -1), ("c", 2))
        self.assertEqual(self.both(balances, (("a", "c", 1), ("b", "c", 1))), (True, True))
        self.assertEqual(self.both(balances, (("a", "b", 1), ("b", "c", 2))), (False, True))

    def test_none_where_there_are_balances(self):
        self.assertEqual(self.both((), ()), (True, True))
        self.assertEqual(self.both((), (("a", "b", 1), ("b", "a", 1))), (False, False))

    def test_moved_and_many_otherwise(self):
        goings = (("d", "e", 4), ("a", "b", 3), ("a", "c", 2))
        for many in range(-9, 20):
            self.assertIs(holds(("evened", BALANCES, many), goings), many == 9)
            self.assertIs(holds(("fewest", BALANCES, many), goings), many == 3)
        longer = (("d", "b", 3), ("d", "c", 1), ("a", "c", 1), ("a", "e", 4))
        for many in range(6):
            self.assertIs(holds(("fewest", BALANCES, many), longer), False)

    def test_balances_that_are_none(self):
        for balances, goings in (((("b", 5), ("a", -5)), (("a", "b", 5),)), ((("a", -5), ("a", 5)), (("a", "a", 5),)),
                                 ((("a", -5), ("b", 5), ("c", 0)), (("a", "b", 5),)), ((("a", 0),), ()),
                                 ((("a", -5), ("b", 4)), (("a", "b", 5),)), ((("a", -5), ("b", 4)), (("a", "b", 4),)),
                                 ((("b", 5),), (("a", "b", 5),)), ((("a", -5),), (("a", "b", 5),)),
                                 ((("a", -5), ("B", 5)), (("a", "B", 5),)), ((("a", -5), ("abcdefg", 5)), ())):
            for many in range(-1, 7):
                self.assertIs(holds(("evened", balances, many), goings), False, balances)
                self.assertIs(holds(("fewest", balances, many), goings), False, balances)

    def test_six_and_seven(self):
        balances = (("a", -1), ("b", 1), ("c", -2), ("d", 2), ("e", -3), ("f", 3))
        goings = (("a", "b", 1), ("c", "d", 2), ("e", "f", 3))
        self.assertEqual(self.both(balances, goings), (True, True))
        balances = (("a", -1), ("b", 1), ("c", -2), ("d", 2), ("e", -3), ("f", 2), ("g", 1))
        goings = (("a", "b", 1), ("c", "d", 2), ("e", "f", 2), ("e", "g", 1))
        self.assertEqual(self.both(balances, goings), (True, False))
        self.assertIs(holds(("fewest", balances, 4), goings), False)

    def test_names(self):
        for house, told in (("b", True), ("zzzzzz", True), ("abcdef", True), ("zzzzzzz", False), ("", False)):
            balances = (("a", -5), (house, 5))
            self.assertEqual(self.both(balances, (("a", house, 5),)), (told, told))

    def test_great_sums(self):
        much = 10 ** 12
        self.assertEqual(self.both((("a", -much), ("b", much)), (("a", "b", much),)), (True, True))

    def test_fewest_of_small_ones(self):
        source = random.Random(35)
        for turn in range(150):
            sums = [source.choice((-3, -2, -1, 1, 2, 3)) for one in range(source.randrange(6))]
            sums += [-sum(sums)] if sum(sums) else []
            balances = tuple(zip("abcdef", sums))
            for goings in (chain(balances), chain(balances[::-1]), by_groups(balances)):
                for many in range(len(goings) + 2):
                    claim = ("fewest", balances, many)
                    self.assertIs(holds(claim, goings), claims.taken(claim, goings))
                self.assertTrue(holds(("fewest", balances, len(goings)), goings) or goings != by_groups(balances))


def chain(balances):
    """Goings from each house to the next one, as many as can be left out left out."""
    goings, carried = [], 0
    for (house, much), (other, more) in zip(balances, balances[1:]):
        carried += much
        goings += [(house, other, -carried)] if carried < 0 else [(other, house, carried)] if carried else []
    return tuple(goings)


def by_groups(balances):
    """As few goings as can be: chains within as many groups as can be."""
    best = max((parting for parting in partings(list(balances))
                if all(sum(much for house, much in group) == 0 for group in parting)), key=len)
    return tuple(going for group in best for going in chain(group))


class ImportsTest(unittest.TestCase):
    def test_its_own_parts_alone(self):
        files = sorted(FOLDER.glob("checker*.py"))
        self.assertIn(FOLDER / "checker.py", files)
        for path in files:
            for node in ast.walk(ast.parse(path.read_text())):
                self.assertNotIsInstance(node, ast.Import)
                if isinstance(node, ast.ImportFrom):
                    self.assertIn(FOLDER / (node.module.partition(".")[2] + ".py"), files)

    def test_no_other_module_is_loaded(self):
        code = ("import sys, stakecrates.checker\n"
                "print(*[name for name in sys.modules if name.startswith('stakecrates.')])")
        ran = subprocess.run([sys.executable, "-c", code], cwd=FOLDER.parent, capture_output=True, text=True,
                             check=True)
        for name in ran.stdout.split():
            self.assertTrue(name.startswith("stakecrates.checker"), name)
        for path in FOLDER.glob("checker*.py"):
            self.assertIn("stakecrates." + path.stem, ran.stdout.split())


class HandedInTest(unittest.TestCase):
    def test_lists_stay(self):
        thing = [["dealt", [], []], [[0, 0, 1]]]
        again = repr(thing)
        for claim, paper in TRUE:
            holds(thing[0], thing[1])
            holds(claim, thing[1])
            holds((claim[0], thing[0]), paper)
        self.assertEqual(repr(thing), again)

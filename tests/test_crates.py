import unittest

from stakecrates.crates import Crate
from stakecrates.errors import Empty, NoAmount, NoDay, NoForm, NoName, NoPlace, NoRows, NoStakes, Taken
from stakecrates.loads import Load
from stakecrates.stakes import Stakes
from tests import things

A = ("a", "x")
B = ("b", "y")
NO_FORMS = things.NO_WHOLES + [0, -1, 7, 8, 100, 10 ** 5000]


class CrateTest(unittest.TestCase):
    def test_every_form(self):
        for wide in range(1, 7):
            for deep in range(1, 5):
                for crate in (Crate(wide, deep), Crate(wide, deep, None), Crate(deep=deep, wide=wide),
                              Crate(wide, deep, [None] * (wide * deep)), Crate(wide, deep, (None,) * (wide * deep))):
                    self.assertEqual((crate.wide, crate.deep), (wide, deep))
                    self.assertEqual(crate.places(), (None,) * (wide * deep))
                    self.assertEqual(len(crate), 0)
                    self.assertIs(bool(crate), False)
                    self.assertEqual(crate.short_by(), wide * deep)
                    self.assertEqual(str(crate), "\n".join([" ".join("-" * wide)] * deep))
                    self.assertEqual(repr(crate), f"Crate({wide}, {deep}, {' '.join('-' * (wide * deep))})")
                whole = Crate(wide, deep, [A] * (wide * deep))
                self.assertEqual((len(whole), whole.short_by()), (wide * deep, 0))
                self.assertIs(bool(whole), True)

    def test_places(self):
        for places in ([A, None, None, B, None, None], (A, None, None, B, None, None)):
            crate = Crate(3, 2, places)
            self.assertEqual(crate.places(), (A, None, None, B, None, None))
            self.assertIs(type(crate.places()), tuple)
            self.assertEqual([crate.bottle(at) for at in range(6)], [A, None, None, B, None, None])
            self.assertEqual(len(crate), 2)
            self.assertEqual(crate.short_by(), 4)
            self.assertEqual(str(crate), "a/x - -\nb/y - -")
            self.assertEqual(repr(crate), "Crate(3, 2, a/x - - b/y - -)")
        self.assertEqual(str(Crate(2, 3, [A, None, None, B, None, None])), "a/x -\n- b/y\n- -")
        self.assertEqual(Crate(places=[A], deep=1, wide=1).places(), (A,))
        self.assertEqual(str(Crate(1, 1, [A])), "a/x")
        self.assertEqual(repr(Crate(1, 1)), "Crate(1, 1, -)")

    def test_what_was_told_may_be_handed_in(self):
        crate = Crate(2, 1, [A, None])
        self.assertEqual(Crate(2, 1, crate.places()), crate)

    def test_filled_and_emptied(self):
        crate = Crate(2, 2, [A, None, None, B])
        self.assertEqual(crate.filled(1, "c", "z").places(), (A, ("c", "z"), None, B))
        self.assertEqual(crate.filled(sort="z", house="c", at=2).places(), (A, None, ("c", "z"), B))
        self.assertEqual(crate.emptied(0).places(), (None, None, None, B))
        self.assertEqual(crate.emptied(at=3).places(), (A, None, None, None))
        self.assertEqual(Crate(1, 3).filled(0, "a", "x").places(), (A, None, None))
        self.assertEqual(crate.emptied(0).filled(0, "a", "x"), crate)
        self.assertIs(type(crate.filled(1, "c", "z")), Crate)
        self.assertEqual(crate.places(), (A, None, None, B))

    def test_filled_and_emptied_keep_the_form(self):
        crate = Crate(3, 2, [A, None, None, None, None, None])
        for new in (crate.filled(5, "b", "y"), crate.emptied(0), crate.turned()):
            self.assertEqual((new.wide, new.deep), (3, 2))

    def test_inside(self):
        crate = Crate(3, 2, [A, None, B, A, ("a", "y"), None])
        self.assertIs(type(crate.inside()), Load)
        self.assertEqual(crate.inside().kinds(), (("a", "x", 2), ("a", "y", 1), ("b", "y", 1)))
        self.assertEqual(Crate(3, 2).inside().kinds(), ())

    def test_turned(self):
        crate = Crate(3, 2, [A, None, B, None, None, ("c", "z")])
        self.assertEqual(crate.turned().places(), (("c", "z"), None, None, B, None, A))
        self.assertEqual(crate.turned().turned(), crate)
        self.assertEqual(str(crate.turned()), "c/z - -\nb/y - a/x")
        self.assertEqual(crate.places(), (A, None, B, None, None, ("c", "z")))

    def test_worth(self):
        stakes = Stakes([("x", 3, 15), ("y", 5, 2), ("x", 9, 8)])
        crate = Crate(2, 2, [A, B, None, A])
        self.assertEqual([crate.worth(stakes, day) for day in (0, 2, 3, 5, 9, 9999)], [0, 0, 30, 32, 18, 18])
        self.assertEqual(crate.worth(stakes, 5, 100), 132)
        self.assertEqual(crate.worth(box=9999, day=3, stakes=stakes), 10029)
        self.assertEqual(crate.worth(stakes, 3, 0), 30)
        self.assertEqual(Crate(2, 2).worth(stakes, 5, 1), 1)

    def test_bottle_by_name(self):
        self.assertEqual(Crate(1, 1, [A]).bottle(at=0), A)


class LikenessTest(things.Refusals, unittest.TestCase):
    def test_alike(self):
        one = Crate(2, 2, [A, None, None, B])
        self.is_alike(one, one)
        self.is_alike(one, Crate(2, 2, (A, None, None, B)))
        self.is_alike(one, Crate(2, 2).filled(3, "b", "y").filled(0, "a", "x"))
        self.is_alike(Crate(3, 1), Crate(3, 1, [None] * 3))

    def test_unlike(self):
        one = Crate(2, 2, [A, None, None, B])
        for places in ([B, None, None, A], [A, None, None, None], [A, None, B, None], [A, A, None, B],
                       [A, None, None, ("b", "x")], [A, None, None, ("a", "y")]):
            self.is_unlike(one, Crate(2, 2, places))
            self.assertFalse(one in [Crate(2, 2, places)])
        for other in (Crate(4, 1, one.places()), Crate(1, 4, one.places())):
            self.is_unlike(one, other)
        self.is_unlike(Crate(2, 3), Crate(3, 2))
        self.is_unlike(Crate(2, 1), Crate(2, 2))

    def test_unlike_to_other_things(self):
        for crate in (Crate(1, 1), Crate(1, 1, [A])):
            for thing in things.NO_NAMES + things.NAMES + [Load(), Stakes(), (None,), (A,), "a/x", "-", crate.inside()]:
                self.is_unlike(crate, thing)
            self.assertFalse(crate in [None, (), "-", (None,)])


class RefusalsTest(things.Refusals, unittest.TestCase):
    def setUp(self):
        self.crate = Crate(2, 2, [None, A, None, B])

    def tearDown(self):
        self.assertEqual(repr(self.crate), "Crate(2, 2, - a/x - b/y)")

    def test_no_form(self):
        for thing in NO_FORMS:
            self.refused(NoForm, Crate, thing, 1)
            self.refused(NoForm, Crate, 1, thing)
            self.refused(NoForm, Crate, 1, thing, 5)
            self.refused(NoForm, Crate, places=5, deep=1, wide=thing)
        self.refused(NoForm, Crate, 6, 5)
        self.refused(NoForm, Crate, 1, True, [None])

    def test_what_is_no_row(self):
        for thing in things.NO_ROWS:
            self.refused_with(NoRows, "number", None, Crate, 1, 1, thing)
            self.refused_with(NoRows, "number", None, Crate, 1, 1, places=thing)

    def test_too_many_or_few(self):
        for many in (0, 1, 2, 3, 5, 6, 7):
            self.refused_with(NoRows, "number", None, Crate, 2, 2, [None] * many)
            self.refused_with(NoRows, "number", None, Crate, 2, 2, (A,) * many)
        # The document tells None of too many or few without a bound, so this is ahead of a wrong place.
        self.refused_with(NoRows, "number", None, Crate, 2, 2, [5])

    def test_wrong_places(self):
        wrong = things.NO_ROWS + things.ROWS
        wrong += [["a", "x"], ("a",), ("a", "x", "y"), ("a", "x", 1), "ax", "a/x", "-"]
        wrong += [(thing, "x") for thing in things.NO_NAMES]
        wrong += [("a", thing) for thing in things.NO_NAMES]
        for place in wrong:
            self.refused_with(NoRows, "number", 0, Crate, 2, 2, [place, None, A, 5])
            self.refused_with(NoRows, "number", 3, Crate, 2, 2, (None, A, None, place))

    def test_no_place(self):
        self.assertEqual([self.crate.bottle(at) for at in (0, 1)], [None, A])
        for thing in things.NO_WHOLES + [-1, -4, 4, 5, 100, 10 ** 5000]:
            self.refused_with(NoPlace, "at", thing, self.crate.bottle, thing)
            self.refused_with(NoPlace, "at", thing, self.crate.filled, thing, "", "")
            self.refused_with(NoPlace, "at", thing, self.crate.filled, sort="x", house="a", at=thing)
            self.refused_with(NoPlace, "at", thing, self.crate.emptied, thing)
        self.refused_with(NoPlace, "at", 1, Crate(1, 1).bottle, 1)
        self.refused_with(NoPlace, "at", 24, Crate(6, 4).bottle, 24)
        self.assertIsNone(Crate(6, 4).bottle(23))

    def test_no_name_ahead_of_taken(self):
        for thing in things.NO_NAMES:
            for at in (0, 1):
                self.refused_with(NoName, "name", thing, self.crate.filled, at, thing, "x")
                self.refused_with(NoName, "name", thing, self.crate.filled, at, "a", thing)
        self.refused_with(NoName, "name", "A", self.crate.filled, sort="X", house="A", at=1)

    def test_taken_and_empty(self):
        for at in (1, 3):
            self.refused_with(Taken, "at", at, self.crate.filled, at, "a", "x")
        for at in (0, 2):
            self.refused_with(Empty, "at", at, self.crate.emptied, at)

    def test_worth(self):
        for thing in things.NO_NAMES + things.NAMES + [Load(), self.crate]:
            self.refused(NoStakes, self.crate.worth, thing, -1, -1)
        for thing in things.NO_DAYS:
            self.refused_with(NoDay, "day", thing, self.crate.worth, Stakes(), thing)
            self.refused_with(NoDay, "day", thing, self.crate.worth, Stakes(), thing, -1)
        self.assertEqual([self.crate.worth(Stakes(), 1, box) for box in (0, 1)], [0, 1])
        for thing in things.NO_AMOUNTS:
            self.refused_with(NoAmount, "amount", thing, self.crate.worth, Stakes(), 1, thing)
            self.refused_with(NoAmount, "amount", thing, Crate(1, 1).worth, box=thing, day=0, stakes=Stakes())


class HandedInTest(unittest.TestCase):
    def test_a_list_stays_and_is_not_kept(self):
        places = [A, None, B]
        crate = Crate(3, 1, places)
        told = crate.places()
        crate.filled(1, "c", "z"), crate.emptied(0), crate.turned()
        self.assertEqual(places, [A, None, B])
        places[0] = None
        places.append(A)
        self.assertEqual(told, (A, None, B))
        self.assertEqual(crate.places(), told)
        self.assertEqual(str(crate), "a/x - b/y")

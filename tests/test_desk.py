import itertools
import unittest

from stakecrates.desk import Desk
from stakecrates.errors import LacksAt, NoBack, NoDay, NoDeed, NoName, NoRow, NoRules, NotOut, TooMany
from stakecrates.stakes import Stakes
from stakecrates.yards import Yard
from tests import things
from tests.test_money import NO_RULES

STAKES = Stakes([("x", 0, 10), ("x", 5, 25), ("y", 3, 15)])
RULES = (STAKES, "first", ("holder", "both"))
STORY = ["5 out a x 5", "3 out a x 4", "2 out b y 3", "6 back b a x 2", "4 back c a x 1", "7 home b a x 1",
         "8 wash a x 1", "6 broken b a x 1 cart", "6 paid a b 7", "6 back b a x 2", "6 back b b y 1",
         "7 broken c a x 1 store"]
# Each row that is no deed's, with its answer behind the story.
ANSWERS = {
    "long": "12", "out a x 4": "3", "out a x 6": "4", "out b y 9999": "2", "out c x 6": "0", "out a x 0": "0",
    "store b 6": "a x 3; b y 1", "store b 9": "a x 2; b y 1", "store c 5": "a x 1", "store c 7": "none",
    "store a 7": "a x 1", "store a 8": "none", "store zzzzzz 0": "none",
    "debts 0": "none", "debts 4": "a owes c 10", "debts 6": "a owes b 35; a owes c 10",
    "debts 7": "a owes b 35; c owes a 15", "elder a x 5": "0 3", "elder a x 9999": "4 4", "elder c x 5": "0 0",
    "sums a x": "55 100", "sums b y": "0 0", "sums c x": "0 0",
}
TEXTS = [text for text in things.NAMES + things.WRONG_TEXTS]
NO_NUMBERS = ["", "00", "01", "007", "1234567890", "-1", "+1", "-0", "1.0", "1e3", "x", "1x", "x1", "0x1", "1_0", "\t1",
              "1\n", "\u0661", "\u00b2", "\uff11", "one", "None", "True"]


def desk_of(rows, rules=RULES):
    desk = Desk(rules)
    for row in rows:
        desk.say(row)
    return desk


class Said(things.Refusals):
    def told(self, desk):
        return [desk.say(row) for row in ANSWERS]

    def refused_alike(self, error, desk, row):
        """Refused, and behind it all as ahead."""
        told = self.told(desk)
        wrong = self.refused(error, desk.say, row)
        self.assertEqual(self.told(desk), told)
        self.refused(error, desk.say, row=row)
        return wrong


class AnswersTest(Said, unittest.TestCase):
    def test_no_rules(self):
        for thing in NO_RULES:
            self.refused(NoRules, Desk, thing)
            self.refused(NoRules, Desk, rules=thing)

    def test_deeds(self):
        desk = Desk(rules=RULES)
        for number, row in enumerate(STORY):
            told = desk.say(row) if number else desk.say(row=row)
            self.assertIs(type(told), str)
            self.assertEqual(told, str(number))
            self.assertEqual(desk.say("long"), str(number + 1))

    def test_questions(self):
        desk = desk_of(STORY)
        for row, told in ANSWERS.items():
            self.assertIs(type(desk.say(row)), str)
            self.assertEqual(desk.say(row), told, row)

    def test_of_none(self):
        desk = Desk(RULES)
        for row, told in (("long", "0"), ("out a x 5", "0"), ("store a 5", "none"), ("debts 5", "none"),
                          ("elder a x 5", "0 0"), ("sums a x", "0 0")):
            self.assertEqual(desk.say(row), told)

    def test_undo(self):
        desk = Desk(RULES)
        told = [self.told(desk)]
        for row in STORY:
            desk.say(row)
            told.append(self.told(desk))
        for ahead in told[-2::-1]:
            self.assertEqual(desk.say("undo"), "ok")
            self.assertEqual(self.told(desk), ahead)
        self.refused_alike(NoBack, desk, "undo")
        self.assertEqual(desk.say("5 out a x 5"), "0")
        self.assertEqual(desk.say("undo"), "ok")
        self.assertEqual(desk.say("5 out a x 5"), "0")

    def test_bounds_of_numbers(self):
        desk = Desk(RULES)
        for number, row in enumerate(("0 out a x 999", "9999 out a x 1", "0 paid a b 999999", "10 paid a b 1")):
            self.assertEqual(desk.say(row), str(number))
        self.assertEqual(desk.say("debts 9999"), "b owes a 1000000")
        self.assertEqual(desk.say("out a x 9999"), "1000")

    def test_as_a_yard(self):
        desk, yard = Desk(RULES), Yard(RULES)
        for row in STORY:
            words = row.split(" ")
            deed = tuple(int(word) if word.isdigit() else word for word in words[1:])
            self.assertEqual(desk.say(row), str(yard.enter(int(words[0]), deed)))
            for day, house in itertools.product((0, 4, 6, 9), "abc"):
                self.assertEqual(desk.say(f"out {house} x {day}"), str(yard.out(house, "x", day)))
                self.assertEqual(desk.say(f"store {house} {day}"), "; ".join(str(yard.store(house, day)).split("\n")))
                self.assertEqual(desk.say(f"debts {day}"), "; ".join(str(yard.debts(day)).split("\n")))
                self.assertEqual(desk.say(f"elder {house} x {day}"), "{} {}".format(*yard.elder(house, "x", day)))
                self.assertEqual(desk.say(f"sums {house} x"), "{} {}".format(*yard.sums(house, "x")))

    def test_two_desks(self):
        one, other = Desk(RULES), Desk(RULES)
        one.say(STORY[0])
        self.assertEqual((one.say("long"), other.say("long")), ("1", "0"))


class NoRowTest(Said, unittest.TestCase):
    def test_what_is_no_text(self):
        desk = desk_of(STORY)
        for thing in [None] + things.ODDS + things.ROWS + things.TRUTHS + things.NUMBERS:
            self.refused_alike(NoRow, desk, thing)
        for thing in (["long"], ("undo",), b"long", ("5", "out", "a", "x", "5")):
            self.refused_alike(NoRow, desk, thing)

    def test_other_words(self):
        desk = desk_of(STORY)
        for row in TEXTS + ["Long", "LONG", "undo ", " undo", "long ", " long", "undo\n", "longs", "given a x",
                            "ledger", "enter 5 out a x 5", "back b a x 2", "home b a x 1", "wash a x 1", "paid a b 7",
                            "broken b a x 1 cart", "5", "5 ", " 5", "5 5", "5 Out a x 5", "5 sent a x 5", "5  a x 5",
                            "5 long", "5 undo", "5 store a 5", "x out a x 5", "out", "in a x 5", "0", "5\tout a x 5"]:
            self.refused_alike(NoRow, desk, row)

    def all_refused(self, rows):
        desk = desk_of(STORY)
        told = self.told(desk)
        for row in rows:
            self.refused(NoRow, desk.say, row)
        self.assertEqual(self.told(desk), told)

    def test_other_numbers_of_words(self):
        for row in STORY + list(ANSWERS) + ["undo"]:
            words = row.split(" ")
            wrong = [words[:at] for at in range(len(words))]
            wrong += [words[:at] + words[at + 1:] for at in range(len(words))]
            wrong += [words + [more] for more in ("", "x", "5")] + [[more] + words for more in ("", "x", "5")]
            # The deed "out" without its day is a question, and this question behind a day a deed.
            right = [words[1:]] if words[1:2] == ["out"] else [["5"] + words] if words[0] == "out" else []
            self.all_refused([" ".join(one) for one in wrong if one not in right])

    def test_a_day_ahead_of_a_question_makes_a_deed(self):
        desk = desk_of(STORY)
        self.assertEqual(desk.say("out a x 5"), "8")
        self.assertEqual(desk.say("5 out a x 5"), "12")
        self.assertEqual(desk.say("out a x 5"), "13")

    def test_numbers(self):
        for row in STORY + list(ANSWERS):
            words = row.split(" ")
            places = [at for at, word in enumerate(words) if word.isdigit()]
            self.all_refused([" ".join(words[:at] + [number] + words[at + 1:])
                              for at in places for number in NO_NUMBERS])

    def test_ahead_of_all_that_the_yard_refuses(self):
        desk = desk_of(STORY)
        for row in ("10000 out A x 01", "01 out A x 5", "10000 broken a a x x store", "out A X 01", "store A 05",
                    "elder A X 1234567890", "debts 1234567890", "1234567890 wash a x 9", "9 home a a x"):
            self.refused_alike(NoRow, desk, row)
        self.refused_alike(NoRow, Desk(RULES), "undo 1")


class AsTheYardTest(Said, unittest.TestCase):
    def test_empty_words(self):
        desk = desk_of(STORY)
        for row, error in (("5 out  x 5", NoDeed), ("5 out a  5", NoDeed), ("5 back  a x 5", NoDeed),
                           ("6 broken b a x 1 ", NoDeed), ("6 paid  b 7", NoDeed), ("out  x 5", NoName),
                           ("out a  5", NoName), ("store  5", NoName), ("elder  x 5", NoName), ("sums  x", NoName),
                           ("sums a ", NoName), ("sums  ", NoName), ("elder   5", NoName), ("  ", NoRow), ("", NoRow),
                           ("5  out a x 5", NoRow), (" 5 out a x 5", NoRow), ("5 out a x 5 ", NoRow),
                           ("5 out a x  5", NoRow), ("out a x  5", NoRow), ("out a x ", NoRow), ("debts ", NoRow),
                           ("debts  5", NoRow), ("store a ", NoRow), ("long ", NoRow), ("undo ", NoRow)):
            self.refused_alike(error, desk, row)

    def test_deeds_that_are_none(self):
        desk = desk_of(STORY)
        for row in ("5 out A x 5", "5 out a X 5", "5 out a abcdefg 5", "5 out 1 x 5", "5 out a x 0", "5 out a x 1000",
                    "5 out a x 999999999", "6 back b a x 0", "6 back b a x 1000", "6 back b A x 1", "6 back B a x 1",
                    "6 home a a x 1", "6 home b a x 0", "6 wash a x 0", "6 wash A x 1", "6 wash a x 1000",
                    "6 broken b a x 1 house", "6 broken b a x 1 Cart", "6 broken b a x 1 1", "6 broken b a x 0 cart",
                    "6 broken b a x 1000 store", "6 paid a a 7", "6 paid a b 0", "6 paid a b 1000000", "6 paid a 1 5",
                    "5 out a\n x 5"):
            self.refused_alike(NoDeed, desk, row)

    def test_no_day(self):
        desk = desk_of(STORY)
        for day in (10000, 10001, 999999999):
            for row in (f"{day} out a x 5", f"{day} out A x 0", f"out a x {day}", f"store a {day}", f"debts {day}",
                        f"elder a x {day}"):
                self.assertEqual(self.refused_alike(NoDay, desk, row).day, day)

    def test_no_name(self):
        desk = desk_of(STORY)
        for name in ("A", "abcdefg", "1", "", "-", "a\n"):
            for row in (f"out {name} X 10000", f"out a {name} 10000", f"store {name} 10000", f"elder {name} X 10000",
                        f"elder a {name} 10000", f"sums {name} X", f"sums a {name}"):
                self.assertEqual(self.refused_alike(NoName, desk, row).name, name)

    def test_not_out_and_lacks_at(self):
        desk = desk_of(STORY)
        wrong = self.refused_alike(NotOut, desk, "9 back b a x 6")
        self.assertEqual((wrong.day, str(wrong.load)), (9, "a x 2"))
        wrong = self.refused_alike(NotOut, desk, "3 back b a x 5")
        self.assertEqual((wrong.day, str(wrong.load)), (3, "a x 1"))
        wrong = self.refused_alike(LacksAt, desk, "6 home b a x 3")
        self.assertEqual((wrong.day, wrong.house, str(wrong.load)), (7, "b", "a x 1"))

    def test_too_many(self):
        desk = desk_of(STORY)
        for number in range(len(STORY), 40):
            self.assertEqual(desk.say("5 paid a b 1"), str(number))
        for row in ("5 paid a b 1", "5 out a x 5", "9 back b a x 999"):
            self.assertEqual(self.refused_alike(TooMany, desk, row).many, 40)
        self.refused_alike(NoDeed, desk, "5 paid a b 0")
        self.refused_alike(NoDay, desk, "10000 paid a b 0")
        self.refused_alike(NoRow, desk, "5 paid a b")
        self.assertEqual(desk.say("undo"), "ok")
        self.assertEqual(desk.say("5 out a x 5"), "39")

    def test_no_back(self):
        desk = Desk(RULES)
        self.refused_alike(NoBack, desk, "undo")
        self.refused(NotOut, desk.say, "5 back b a x 1")
        self.refused_alike(NoBack, desk, "undo")

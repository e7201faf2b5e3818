import itertools
import random
import re
import unittest

from stakecrates.crates import Crate
from stakecrates.errors import NoRows, NoText
from stakecrates.loads import Load
from stakecrates.stakes import Stakes
from stakecrates.texts import read_crate, read_load, read_stakes
from tests import things

NAME = "[a-z]{1,6}"
FOUR = "(0|[1-9][0-9]{0,3})"
READERS = (read_stakes, read_load, read_crate)


def is_stakes_text(lines):
    """Told by another way than that of the program: such a text is what `str` tells of its rows."""
    if lines == ["none"]:
        return True
    if not all(re.fullmatch(f"{NAME} {FOUR} {FOUR}", line) for line in lines):
        return False
    rows = [(line.split()[0], int(line.split()[1]), int(line.split()[2])) for line in lines]
    try:
        return str(Stakes(rows)) == "\n".join(lines)
    except NoRows:
        return False


def is_load_text(lines):
    if lines == ["none"]:
        return True
    kinds = [line.split(" ")[:2] for line in lines]
    return (all(re.fullmatch(f"{NAME} {NAME} [1-9][0-9]{{0,11}}", line) for line in lines)
            and all(one < other for one, other in zip(kinds, kinds[1:])))


def is_crate_text(lines):
    word = f"(-|{NAME}/{NAME})"
    wide = lines[0].count(" ") + 1
    line_form = f"{word}( {word}){{{wide - 1}}}"
    return len(lines) <= 4 and wide <= 6 and all(re.fullmatch(line_form, line) for line in lines)


FORMS = {read_stakes: is_stakes_text, read_load: is_load_text, read_crate: is_crate_text}


class ReadBackTest(unittest.TestCase):
    def check_back(self, thing, read):
        told = read(str(thing))
        self.assertIs(type(told), type(thing))
        self.assertEqual(told, thing)
        self.assertEqual(str(told), str(thing))

    def test_stakes(self):
        self.check_back(Stakes(), read_stakes)
        parts = [("none", 0), ("x", 2), ("x", 10), ("x", 9999), ("y", 2)]
        for amounts in itertools.product((0, 7, 9999), repeat=len(parts)):
            self.check_back(Stakes([part + (amount,) for part, amount in zip(parts, amounts)]), read_stakes)

    def test_loads(self):
        self.check_back(Load(), read_load)
        kinds = [("a", "x"), ("a", "y"), ("aa", "a"), ("none", "none")]
        for counts in itertools.product((0, 1, 10, 99999), repeat=len(kinds)):
            self.check_back(Load([kind + (many,) for kind, many in zip(kinds, counts)]), read_load)

    def test_loads_of_more_than_a_row_may_have(self):
        load = Load([("a", "x", 99999)])
        for step in range(23):
            load = load.plus(load)
        self.assertEqual(len(str(load.bottles())), 12)
        self.check_back(load, read_load)
        self.assertEqual(read_load("a x 999999999999").kinds(), (("a", "x", 999999999999),))

    def test_crates(self):
        for wide, deep in itertools.product(range(1, 7), range(1, 5)):
            empty = Crate(wide, deep)
            self.check_back(empty, read_crate)
            self.check_back(Crate(wide, deep, [("abcdef", "none")] * (wide * deep)), read_crate)
            for at in range(wide * deep):
                self.check_back(empty.filled(at, "a", "x"), read_crate)

    def test_arguments_by_name(self):
        self.assertEqual(read_stakes(text="x 3 15").changes("x"), ((3, 15),))
        self.assertEqual(read_load(text="a x 3").kinds(), (("a", "x", 3),))
        self.assertEqual(read_crate(text="a/x -").places(), (("a", "x"), None))


class RefusalsTest(things.Refusals, unittest.TestCase):
    def wrong(self, read, row, *texts):
        for text in texts:
            self.refused_with(NoText, "row", row, read, text)
            self.refused_with(NoText, "row", row, read, text=text)

    def test_what_is_no_text(self):
        for thing in [None] + things.ODDS + things.ROWS + things.TRUTHS + things.NUMBERS:
            for read in READERS:
                self.wrong(read, 0, thing)
        for read in READERS:
            self.wrong(read, 0, ["none"], ("none",), b"none", b"-", Load(), Stakes(), Crate(1, 1))

    def test_texts_of_nothing(self):
        for read in READERS:
            self.wrong(read, 0, "", " ", "\n", "\n\n", "- ", "None", "none ", " none", "NONE", "a", "0")
        self.wrong(read_crate, 0, "none", "none\n-")
        for read in (read_stakes, read_load):
            self.wrong(read, 1, "none\n", "none\nnone", "none\nx 3 15", "none\na x 3", "none\n\nx 3 15")
            self.wrong(read, 0, "\nnone", "-")
        self.wrong(read_stakes, 1, "x 3 15\nnone")
        self.wrong(read_load, 1, "a x 3\nnone")

    def test_stakes_lines(self):
        self.wrong(read_stakes, 0, "x 3", "x", "x 3 15 1", "x 3 15 ", " x 3 15", "x  3 15", "x 3  15", "3 x 15",
                   "X 3 15", "abcdefg 3 15", "x1 3 15", "x 03 15", "x 3 015", "x 00 15", "x 3 00", "x -3 15",
                   "x 3 -15", "x +3 15", "x 3 +15", "x 3.0 15", "x 3 1_5", "x 10000 15", "x 3 10000", "x 3 0", "x 0 0",
                   "x 99999999999 1", "x 3 123456789012", "x 3 1234567890123", "x 3 15,", "x,3,15", "x three 15",
                   "x 3 " + "1" * 4900, "x " + "9" * 4900 + " 1", "x 3 15\t", "x\t3\t15", " 3 15", "x 3 15; x 9 8",
                   "x \u0663 15", "x 3 \u00b2")

    def test_stakes_lines_behind_others(self):
        ahead = "x 3 15\nx 9 8"
        for line in ("", " ", "x 9 8", "x 3 15", "x 9 7", "x 8 7", "x 10 8", "w 10 8", "x 0 1", "y 0 0", "y 10 0",
                     "x 010 9", "x 10 9 ", "y 10000 1", "z"):
            self.wrong(read_stakes, 2, ahead + "\n" + line, ahead + "\n" + line + "\ny 1 1", ahead + "\n" + line + "\n")
        for line in ("x 10 9", "x 10 0", "y 0 8", "y 9 8", "xa 1 1"):
            self.assertEqual(str(read_stakes(ahead + "\n" + line)), ahead + "\n" + line)
            self.wrong(read_stakes, 3, ahead + "\n" + line + "\n", ahead + "\n" + line + "\n" + line)
        self.wrong(read_stakes, 0, "x 3 0\nx 9 8", "\nx 3 15")
        self.wrong(read_stakes, 1, "x 9 8\nx 3 15", "y 1 1\nx 1 1", "x 9 8\nx 010 9")

    def test_load_lines(self):
        self.wrong(read_load, 0, "a x", "a", "a x 3 4", "a x 3 ", " a x 3", "a  x 3", "a x  3", "a 3 x", "3 a x", "A x 3",
                   "a X 3", "abcdefg x 3", "a abcdefg 3", "a  3", " x 3", "a x 0", "a x 00", "a x 03", "a x -3", "a x +3",
                   "a x 3.0", "a x 1_0", "a x 1234567890123", "a x 0123456789012", "a x " + "1" * 4900, "a x three",
                   "a/x 3", "a x 3; b y 2", "a x \u0663")
        self.wrong(read_load, 1, "a x 3\n1234567 x 1", "a x 3\nb y 1234567890123")

    def test_load_lines_behind_others(self):
        ahead = "a x 3\nb y 2"
        for line in ("", " ", "b y 2", "b y 3", "a x 3", "a z 1", "b x 9", "ab z 1", "b z 0", "c a 01", "c a", "c a 1 "):
            self.wrong(read_load, 2, ahead + "\n" + line, ahead + "\n" + line + "\nz z 1", ahead + "\n" + line + "\n")
        for line in ("b z 1", "c a 2", "ba a 1", "b ya 123456789012"):
            self.assertEqual(str(read_load(ahead + "\n" + line)), ahead + "\n" + line)
            self.wrong(read_load, 3, ahead + "\n" + line + "\n", ahead + "\n" + line + "\n" + line)

    def test_crate_lines(self):
        self.wrong(read_crate, 0, "--", "- -  -", " -", "- ", "a/x  -", "a/x/y", "a/", "/x", "/", "a", "a-x", "A/x",
                   "a/X", "abcdefg/x", "a/abcdefg", "a/1", "- - - - - - -", "a/x a/x a/x a/x a/x a/x a/x", "a /x", "a/ x",
                   "-/-", "a/-", "-/x", "-\t-", "_", "0", "- - - - - - -\n-", "a/x,- -", "- - - - - - ", "a//x")
        self.wrong(read_crate, 1, "-\n", "-\n\n-", "- -\n-", "-\n- -", "-\n -", "- -\n-  -", "a/x -\n- b", "-\n-/-",
                   "- - - - - -\n- - - - -", "- -\n- - -", "- -\n- - ", "- -\nnone")
        self.wrong(read_crate, 3, "-\n-\n-\n", "-\n-\n-\na", "- -\n- -\n- -\n-\n- -")
        self.wrong(read_crate, 4, "-\n-\n-\n-\n-", "-\n-\n-\n-\n", "-\n-\n-\n-\na", "-\n-\n-\n-\n-\n-\na",
                   "a/x\na/x\na/x\na/x\n- -")

    def test_texts_changed_a_little(self):
        sure = random.Random(11)
        starts = {
            read_stakes: ["none", "x 3 15\nx 9 8\ny 10 8", "a 0 1\na 1 0\nb 9999 9999", "x 10 1\nx 11 11\nx 12 1"],
            read_load: ["none", "a x 3\nb y 2", "a x 10\na y 11\nb a 1\nb b 1", "a x 999999999999\nx a 1"],
            read_crate: ["-", "a/x -\n- b/y", "- - - - - a/x\n- - - - - -", "-\n-\n-\na/x", "a/a\nb/b\n-"],
        }
        seen = {True: 0, False: 0}
        for read, is_text in FORMS.items():
            for start in starts[read]:
                for step in range(1500):
                    seen[self.check_text(read, is_text, changed(start, sure))] += 1
        self.assertGreater(min(seen.values()), 500)

    def check_text(self, read, is_text, text):
        lines = text.split("\n")
        rows = [row for row in range(len(lines)) if not is_text(lines[:row + 1])]
        if rows:
            self.refused_with(NoText, "row", rows[0], read, text)
        else:
            self.assertEqual(str(read(text)), text)
        return not rows


def changed(text, sure):
    """A text with one to three signs, words or lines put in, taken out or doubled."""
    for step in range(sure.randint(1, 3)):
        at = sure.randint(0, len(text))
        sign = sure.choice("abxyz0019 \n-/ \n")
        piece = text[at:at + sure.randint(0, 6)]
        text = sure.choice([
            text[:at] + sign + text[at:], text[:at] + text[at + 1:], text[:at] + sign + text[at + 1:],
            text[:at] + piece + text[at:], text.replace(piece, sign, 1) if piece else text,
            "\n".join(sure.sample(text.split("\n"), text.count("\n") + 1))])
    return text

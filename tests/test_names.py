import unittest

from stakecrates.names import is_day, is_name
from tests import things


class NamesTest(unittest.TestCase):
    def test_names(self):
        for name in things.NAMES + list("abcdefghijklmnopqrstuvwxyz") + ["ab", "abc", "abcd", "abcde"]:
            self.assertIs(is_name(name), True, name)

    def test_other_things_are_no_names(self):
        for thing in things.NO_NAMES:
            self.assertIs(is_name(thing), False, repr(thing)[:80])

    def test_each_sign_is_looked_at(self):
        for at in range(6):
            text = "abcdef"
            for sign in "A1 -\n\u00e9":
                self.assertIs(is_name(text[:at] + sign + text[at + 1:]), False)

    def test_days(self):
        for day in (0, 1, 2, 500, 9998, 9999):
            self.assertIs(is_day(day), True)

    def test_other_things_are_no_days(self):
        for thing in things.NO_DAYS:
            self.assertIs(is_day(thing), False)

    def test_truths_are_no_days_behind_the_numbers_that_they_equal(self):
        self.assertIs(is_day(1), True)
        self.assertIs(is_day(True), False)
        self.assertIs(is_day(0), True)
        self.assertIs(is_day(False), False)
        self.assertIs(is_day(1), True)

    def test_arguments_by_name(self):
        self.assertIs(is_name(thing="x"), True)
        self.assertIs(is_day(thing=3), True)

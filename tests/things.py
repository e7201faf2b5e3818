"""Things of many kinds, and how the tests look at refusals."""

from stakecrates.errors import FullError, LackError, StakeError

FAMILIES = (StakeError, LackError, FullError)


class Odd:
    """A thing of a class that the program does not know."""


class AlikeToAll:
    """A thing that calls itself alike to everything."""

    def __eq__(self, other):
        return True


def deep(levels):
    thing = []
    for level in range(levels):
        thing = [thing]
    return thing


# Neither a name, nor a number, nor a row, nor None.
ODDS = [b"x", {}, {"x": 1}, {0: 1}, {1, 2}, set(), frozenset(), object(), Odd(), AlikeToAll(), len, int, Odd,
        ValueError("x"), range(3), iter(()), ...]
ROWS = [[], (), ["x"], ("x",), [1], (1,), [None], deep(9), (("x",),)]
TRUTHS = [True, False]
NUMBERS = [0, 1, -1, 9999, 10000, 123456789012, -123456789012]
NAMES = ["a", "z", "x", "abcdef", "zzzzzz", "none"]
WRONG_TEXTS = ["", " ", "abcdefg", "A", "aB", "a b", " a", "a ", "a\n", "\n", "1", "a1", "-", "a-b", "a/b", "a.b",
               "a_b", "\u00e9", "\u00df", "\u0430", "`", "{", "abcde ", "True", "a" * 100]

NO_NAMES = [None] + ODDS + ROWS + TRUTHS + NUMBERS + WRONG_TEXTS
NO_WHOLES = [None] + ODDS + ROWS + TRUTHS + NAMES + WRONG_TEXTS
NO_DAYS = NO_WHOLES + [-1, -2, 10000, 10001, 123456789012, -123456789012, 10 ** 5000]
NO_AMOUNTS = NO_DAYS
# None means that rows are left out, so it is not among these.
NO_ROWS = ODDS + TRUTHS + NUMBERS + NAMES + WRONG_TEXTS


class Refusals:
    """For test cases: what a call is refused with."""

    def refused(self, error, deed, /, *places, **names):
        with self.assertRaises(error) as caught:
            deed(*places, **names)
        wrong = caught.exception
        self.assertIs(type(wrong), error)
        self.assertEqual(sum(isinstance(wrong, family) for family in FAMILIES), 1)
        return wrong

    def refused_with(self, error, field, thing, deed, /, *places, **names):
        """The field is the very thing, or a number or text of its kind."""
        told = getattr(self.refused(error, deed, *places, **names), field)
        self.assertIs(type(told), type(thing))
        if told is not thing:
            self.assertEqual(told, thing)

    def is_unlike(self, one, other):
        self.assertIs(one == other, False)
        self.assertIs(one != other, True)

    def is_alike(self, one, other):
        self.assertIs(one == other, True)
        self.assertIs(one != other, False)
        self.assertIs(other == one, True)
        self.assertTrue(one in [other] and one in (None, other))

"""A desk that keeps a Yard and is told rows of words."""

from stakecrates.errors import NoRow
from stakecrates.lines import is_number
from stakecrates.yards import Yard

MOST_FIGURES = 9
# For each word what stands behind it: w for a word, n for a number.
DEED_FORMS = {"out": "wwn", "back": "wwwn", "home": "wwwn", "wash": "wwn", "broken": "wwwnw", "paid": "wwn"}
QUESTION_FORMS = {"undo": "", "long": "", "out": "wwn", "store": "wn", "debts": "n", "elder": "wwn", "sums": "ww"}


def number_of(word):
    """The number that a word tells."""
    if not is_number(word, MOST_FIGURES):
        raise NoRow("not a number where one must be")
    return int(word)


def parts_of(words, form):
    """The tuple of words, and numbers where the form has them."""
    if len(words) != len(form):
        raise NoRow("another number of words than there must be")
    return tuple([number_of(word) if kind == "n" else word for word, kind in zip(words, form)])


def on_one_line(text):
    """A text with its line ends put otherwise."""
    return text.replace("\n", "; ")


def two_numbers(both):
    """Both numbers with a blank between."""
    return f"{both[0]} {both[1]}"


def say_undo(yard, parts):
    """Take the last entry back."""
    yard.undo()
    return "ok"


def say_long(yard, parts):
    """How many entries there are."""
    return str(len(yard))


def say_out(yard, parts):
    """How many bottles are out."""
    return str(yard.out(parts[0], parts[1], parts[2]))


def say_store(yard, parts):
    """What lies in a store."""
    return on_one_line(str(yard.store(parts[0], parts[1])))


def say_debts(yard, parts):
    """What houses owe one another."""
    return on_one_line(str(yard.debts(parts[0])))


def say_elder(yard, parts):
    """How many elder ones are out, at least and at most."""
    return two_numbers(yard.elder(parts[0], parts[1], parts[2]))


def say_sums(yard, parts):
    """Which sum is out, at least and at most."""
    return two_numbers(yard.sums(parts[0], parts[1]))


ANSWERS = {"undo": say_undo, "long": say_long, "out": say_out, "store": say_store, "debts": say_debts,
           "elder": say_elder, "sums": say_sums}


def enter_words(yard, words):
    """Enter the deed that stands behind its day; its number."""
    if len(words) < 2 or words[1] not in DEED_FORMS:
        raise NoRow("neither a question nor a day and a deed")
    day = number_of(words[0])
    return str(yard.enter(day, (words[1],) + parts_of(words[2:], DEED_FORMS[words[1]])))


class Desk:
    """A desk and its Yard."""

    def __init__(self, rules):
        self.yard = Yard(rules)

    def say(self, row):
        """The answer to a row of words."""
        if not isinstance(row, str):
            raise NoRow("not a text")
        words = row.split(" ")
        if words[0] not in ANSWERS:
            return enter_words(self.yard, words)
        answer = ANSWERS[words[0]]
        return answer(self.yard, parts_of(words[1:], QUESTION_FORMS[words[0]]))

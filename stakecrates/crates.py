"""Crates: lines of places, each with a bottle or none."""

from stakecrates.checks import check_amount, check_day, check_name, check_row
from stakecrates.errors import Empty, NoForm, NoPlace, NoRows, Taken
from stakecrates.loads import Load
from stakecrates.names import is_name, is_whole
from stakecrates.stakes import check_stakes

WIDEST = 6
DEEPEST = 4
EMPTY_WORD = "-"


def is_place(thing):
    """Whether a thing is a bottle, a tuple (HOUSE, SORT), or None for an empty place."""
    return thing is None or (isinstance(thing, tuple) and len(thing) == 2 and is_name(thing[0]) and is_name(thing[1]))


def check_form(wide, deep):
    """Refuse what is no width and depth of a Crate."""
    if not is_whole(wide, 1, WIDEST) or not is_whole(deep, 1, DEEPEST):
        raise NoForm("not a width from 1 to 6 and a depth from 1 to 4")


def check_places(places, many):
    """Refuse what is no row of so many places."""
    check_row(places)
    if len(places) != many:
        raise NoRows(None)
    for number, place in enumerate(places):
        if not is_place(place):
            raise NoRows(number)


def place_words(places):
    """A word for each place."""
    return [EMPTY_WORD if place is None else f"{place[0]}/{place[1]}" for place in places]


def place_lines(places, wide):
    """The words of places, line by line."""
    words = place_words(places)
    return [" ".join(words[start:start + wide]) for start in range(0, len(words), wide)]


class Crate:
    """A Crate of `deep` lines of `wide` places; never changed."""

    def __init__(self, wide, deep, places=None):
        check_form(wide, deep)
        given = [None] * (wide * deep) if places is None else places
        check_places(given, wide * deep)
        self.wide = wide
        self.deep = deep
        self.held = tuple(given)

    def places(self):
        """The tuple of what is in each place, line by line."""
        return self.held

    def bottle(self, at):
        """The bottle in a place, or None."""
        if not is_whole(at, 0, len(self.held) - 1):
            raise NoPlace(at)
        return self.held[at]

    def filled(self, at, house, sort):
        """A new Crate with a bottle put into an empty place."""
        held = self.bottle(at)
        check_name(house)
        check_name(sort)
        if held is not None:
            raise Taken(at)
        return self.changed(at, (house, sort))

    def emptied(self, at):
        """A new Crate with the bottle of a place taken out."""
        if self.bottle(at) is None:
            raise Empty(at)
        return self.changed(at, None)

    def changed(self, at, place):
        """A new Crate with this in a place."""
        return Crate(self.wide, self.deep, self.held[:at] + (place,) + self.held[at + 1:])

    def inside(self):
        """The Load of its bottles."""
        return Load([(place[0], place[1], 1) for place in self.held if place is not None])

    def short_by(self):
        """How many places are empty."""
        return len([place for place in self.held if place is None])

    def turned(self):
        """A new Crate, this one turned half round."""
        return Crate(self.wide, self.deep, self.held[::-1])

    def worth(self, stakes, day, box=0):
        """What the box is worth, and the stakes of its bottles on a day."""
        check_stakes(stakes)
        check_day(day)
        check_amount(box)
        return box + self.inside().worth(stakes, day)

    def __eq__(self, other):
        return (isinstance(other, Crate) and self.wide == other.wide and self.deep == other.deep
                and self.held == other.held)

    def __len__(self):
        return len([place for place in self.held if place is not None])

    def __str__(self):
        return "\n".join(place_lines(self.held, self.wide))

    def __repr__(self):
        return f"Crate({self.wide}, {self.deep}, {' '.join(place_words(self.held))})"

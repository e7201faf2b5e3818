"""What a name, a word, a day, an amount and a row are."""

LETTERS = "abcdefghijklmnopqrstuvwxyz"


def is_whole(thing, least, greatest):
    """Whether a thing is a whole number within these bounds; a truth is none."""
    return isinstance(thing, int) and not isinstance(thing, bool) and least <= thing <= greatest


def is_name(thing):
    """Whether a thing is a text of one to six small letters."""
    return isinstance(thing, str) and 1 <= len(thing) <= 6 and all([sign in LETTERS for sign in thing])


def is_word(thing, words):
    """Whether a thing is a text that is one of these words."""
    return isinstance(thing, str) and thing in words


def is_day(thing):
    """Whether a thing is a day."""
    return is_whole(thing, 0, 9999)


def is_amount(thing):
    """Whether a thing is an amount in pence."""
    return is_whole(thing, 0, 9999)


def is_row(thing):
    """Whether a thing is a row of things, as they are handed in."""
    return isinstance(thing, (list, tuple))

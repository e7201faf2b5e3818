"""The lines that `str` and `repr` have of rows, and the numbers in them."""

NONE = "none"
FIGURES = "0123456789"


def row_lines(rows):
    """A line for each row, its parts with blanks between."""
    return [" ".join([str(part) for part in row]) for row in rows]


def is_number(word, most):
    """Whether a word is a number as it is told, without noughts ahead, of at most so many figures."""
    return (1 <= len(word) <= most and all([sign in FIGURES for sign in word])
            and (word == "0" or word[0] != "0"))

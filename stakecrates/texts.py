"""Stakes, Loads and Crates read back from what `str` tells of them.

Of each such text the lines up to any one are such a text, too. So a line is wrong just where it can't stand
behind the lines ahead, whatever comes behind it.
"""

from stakecrates.crates import DEEPEST, EMPTY_WORD, WIDEST, Crate, is_place
from stakecrates.errors import NoText
from stakecrates.lines import NONE, is_number
from stakecrates.loads import load_of
from stakecrates.names import is_name
from stakecrates.stakes import Stakes, is_stake_row

MOST_FIGURES = 12


def lines_of(text):
    """The lines of a text, at least one."""
    if not isinstance(text, str):
        raise NoText(0)
    return text.split("\n")


def lines_of_rows(text):
    """The lines of a text that has one for each row; of no row it has a word, which stands alone."""
    lines = lines_of(text)
    if lines[0] != NONE:
        return lines
    if len(lines) > 1:
        raise NoText(1)
    return []


def stake_row(words):
    """The row of Stakes that has these words, None where there is none."""
    if len(words) != 3 or not is_number(words[1], MOST_FIGURES) or not is_number(words[2], MOST_FIGURES):
        return None
    row = (words[0], int(words[1]), int(words[2]))
    return row if is_stake_row(row) else None


def changes_stake(row, rows):
    """Whether a row changes a stake behind all these rows."""
    sort, day, amount = row
    if not rows or rows[-1][0] < sort:
        return amount != 0
    return rows[-1][0] == sort and rows[-1][1] < day and rows[-1][2] != amount


def load_row(words):
    """The row of a Load that has these words, None where there is none."""
    if len(words) != 3 or not is_name(words[0]) or not is_name(words[1]):
        return None
    if not is_number(words[2], MOST_FIGURES) or words[2] == "0":
        return None
    return words[0], words[1], int(words[2])


def is_next_kind(row, rows):
    """Whether the kind of a row is behind those of all these rows."""
    return not rows or (rows[-1][0], rows[-1][1]) < (row[0], row[1])


def read_rows(text, row_of, may_follow):
    """The rows of a text that has a line for each, where each may stand behind those ahead."""
    rows = []
    for number, line in enumerate(lines_of_rows(text)):
        row = row_of(line.split(" "))
        if row is None or not may_follow(row, rows):
            raise NoText(number)
        rows.append(row)
    return rows


def read_stakes(text):
    """The Stakes of which this text is told."""
    return Stakes(read_rows(text, stake_row, changes_stake))


def read_load(text):
    """The Load of which this text is told."""
    return load_of(read_rows(text, load_row, is_next_kind))


def place_of(word):
    """The place that a word tells of; what is no place where it tells of none."""
    return None if word == EMPTY_WORD else tuple(word.split("/"))


def is_crate_line(places, wide):
    """Whether these may be the places of a line of a Crate that is so wide."""
    return len(places) == wide and wide <= WIDEST and all([is_place(place) for place in places])


def read_crate(text):
    """The Crate of which this text is told."""
    lines = lines_of(text)
    wide = len(lines[0].split(" "))
    places = []
    for number, line in enumerate(lines):
        found = [place_of(word) for word in line.split(" ")]
        if number == DEEPEST or not is_crate_line(found, wide):
            raise NoText(number)
        places.extend(found)
    return Crate(wide, len(lines), places)

"""The lines that `str` and `repr` have of rows."""

NONE = "none"


def row_lines(rows):
    """A line for each row, its parts with blanks between."""
    return [" ".join([str(part) for part in row]) for row in rows]

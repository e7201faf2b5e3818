"""The claim about what must lie in a store at first: start."""

from stakecrates.checker_parts import are_all, is_day, is_from, is_name, is_number_of, is_rising, is_tuple_of


def is_kind(thing):
    """Whether a thing is a tuple (HOUSE, SORT, MANY), as a Load tells it."""
    return is_tuple_of(thing, 3) and is_name(thing[0]) and is_name(thing[1]) and is_from(thing[2], 1)


def are_kinds(thing):
    """Whether a thing is KINDS, rising, each once."""
    return are_all(thing, is_kind) and is_rising([(house, sort) for house, sort, many in thing])


def is_move(thing):
    """Whether a thing is a tuple (DAY, KINDS, COMES)."""
    return is_tuple_of(thing, 3) and is_day(thing[0]) and are_kinds(thing[1]) and isinstance(thing[2], bool)


def more_gone(rows, day, kind):
    """How many more of a kind go than come up to a day."""
    more = 0
    for when, kinds, comes in rows:
        if when <= day:
            gone = sum([many for house, sort, many in kinds if (house, sort) == kind])
            more += -gone if comes else gone
    return more


def is_enough(rows, start):
    """Whether nothing ever lacks where these KINDS lie in a store at first."""
    lying = {(house, sort): many for house, sort, many in start}
    for day, kinds, comes in rows:
        for house, sort, many in kinds:
            # A kind lacks first on a day on which it goes, so its own rows are looked at alone.
            if more_gone(rows, day, (house, sort)) > lying.get((house, sort), 0):
                return False
    return True


def takes_start(parts, paper):
    """Whether just these KINDS must lie in a store at first: so many are needed up to the DAY of a row for each."""
    if len(parts) != 2 or not are_all(parts[0], is_move) or not are_kinds(parts[1]):
        return False
    rows, start = parts
    if not is_tuple_of(paper, len(start)) or not are_all(paper, lambda number: is_number_of(number, rows)):
        return False
    needed = [more_gone(rows, rows[number][0], kind[:2]) for number, kind in zip(paper, start)]
    return needed == [kind[2] for kind in start] and is_enough(rows, start)

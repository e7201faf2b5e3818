"""The claim about the room that a cart needs: room."""

from stakecrates.checker_parts import are_all, is_number, is_number_of, is_tuple_of, is_within

MOST_AT_STOP = 999


def is_stop(thing):
    """Whether a thing is a tuple (DROP, TAKE)."""
    return is_tuple_of(thing, 2) and is_within(thing[0], 0, MOST_AT_STOP) and is_within(thing[1], 0, MOST_AT_STOP)


def most_on_cart(stops):
    """The most that a cart has, at first or behind a stop."""
    # Behind some stops it has what is still to be left, and what was taken.
    return max([sum([drop for drop, take in stops[at:]]) + sum([take for drop, take in stops[:at]])
                for at in range(len(stops) + 1)])


def is_order(stops, thing):
    """Whether a thing is a tuple of all numbers of STOPS, each once."""
    return are_all(thing, lambda number: is_number_of(number, stops)) and sorted(thing) == list(range(len(stops)))


def takes_room(parts, paper):
    """Whether ROOM is the least that is needed: by the paper's order, at first or at last by any order."""
    if len(parts) != 2 or not are_all(parts[0], is_stop) or not is_number(parts[1]) or not is_order(parts[0], paper):
        return False
    stops, room = parts
    ends = (sum([drop for drop, take in stops]), sum([take for drop, take in stops]))
    return room in ends and room == most_on_cart([stops[number] for number in paper])

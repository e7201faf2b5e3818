"""Rounds of a cart that leaves and takes bottles at each stop."""

from stakecrates.checks import check_rows
from stakecrates.names import is_whole

MOST_AT_STOP = 999


def is_stop(thing):
    """Whether a thing is a tuple (DROP, TAKE)."""
    return (isinstance(thing, tuple) and len(thing) == 2
            and is_whole(thing[0], 0, MOST_AT_STOP) and is_whole(thing[1], 0, MOST_AT_STOP))


def need(stops):
    """The most that a cart has, at first or behind a stop."""
    check_rows(stops, is_stop)
    most = has = sum([drop for drop, take in stops])
    for drop, take in stops:
        has += take - drop
        most = max(most, has)
    return most


def least_room(stops):
    """(ROOM, ORDER): the least need of all orders of STOPS, and an order that needs no more."""
    check_rows(stops, is_stop)
    # By stops that take no more than they drop the cart never has more than at first, and behind these, by those
    # that take more, never more than at last; with less than at first and at last no order does.
    easing = [number for number, (drop, take) in enumerate(stops) if take <= drop]
    filling = [number for number, (drop, take) in enumerate(stops) if take > drop]
    order = easing + filling
    return need([stops[number] for number in order]), tuple(order)

"""Loads packed into Crates."""

from stakecrates.crates import Crate, check_form
from stakecrates.errors import NoLoad
from stakecrates.loads import check_load

MOST_BOTTLES = 999


def lots_of(load, apart):
    """A list of bottles, in their order, for each house, or for each kind where these lie apart."""
    lots = {}
    for house, sort, many in load.kinds():
        lot = (house, sort) if apart is True else house
        lots[lot] = lots.get(lot, []) + [(house, sort)] * many
    return list(lots.values())


def crates_of(bottles, wide, deep):
    """The Crates of bottles that may lie together, filled from the first place on."""
    size = wide * deep
    crates = []
    for start in range(0, len(bottles), size):
        lying = bottles[start:start + size]
        crates.append(Crate(wide, deep, lying + [None] * (size - len(lying))))
    return crates


def packed(load, wide, deep, apart=False):
    """The tuple of as few Crates as can be that have the Load."""
    check_load(load)
    if load.bottles() > MOST_BOTTLES:
        raise NoLoad("more bottles than are packed at once")
    check_form(wide, deep)
    crates = []
    for bottles in lots_of(load, apart):
        crates.extend(crates_of(bottles, wide, deep))
    return tuple(crates)

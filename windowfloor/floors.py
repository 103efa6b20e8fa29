"""Floors, and the places on them."""

from windowfloor.basics import is_below, is_pair_below

MOST_SIGNS = 36
MOST_PLACES = 600


def is_floor(thing):
    """Tell, of anything, whether it is a floor."""
    if not isinstance(thing, tuple) or len(thing) == 0:
        return False
    if not all([isinstance(row, tuple) for row in thing]):
        return False
    wide = len(thing[0])
    if wide == 0 or len(thing) * wide > MOST_PLACES:
        return False
    return all([is_floor_row(row, wide) for row in thing])


def is_floor_row(row, wide):
    """Tell whether the tuple is a row of so many signs."""
    return len(row) == wide and all([is_below(sign, MOST_SIGNS) for sign in row])


def is_place(floor, thing):
    """Tell, of anything, whether it is a place of the floor."""
    high, wide = size(floor)
    return is_pair_below(thing, high, wide)


def size(floor):
    """Tell (how many rows, how many columns)."""
    return (len(floor), len(floor[0]))


def all_places(floor):
    """Tell the rising list of all places of the floor."""
    high, wide = size(floor)
    return [(r, c) for r in range(high) for c in range(wide)]

"""Floors beside themselves, and the shifts that keep them or lead to others.

The shifts that are looked at, (i, j) with i below high and j below wide, are the same pairs as the floor's places.
"""

from windowfloor.errors import TooGreat
from windowfloor.floors import MOST_PLACES, all_places, size
from windowfloor.moves import moved_floor


def beside(floor, down, right):
    """Tell the floor of so many copies below one another and beside one another."""
    high, wide = size(floor)
    if high * down * wide * right > MOST_PLACES:
        raise TooGreat("a floor has at most 600 places")
    return tuple([row * right for row in floor]) * down


def shifted(floor, by):
    """Tell the floor shifted by (i, j)."""
    return moved_floor(("shift", by[0], by[1]), floor)


def kept_by(floor):
    """Tell the rising tuple of all shifts by which the floor is the same."""
    return tuple([by for by in all_places(floor) if shifted(floor, by) == floor])


def least_of(floor):
    """Tell (the least floor to which a shift leads, the least shift that does)."""
    return min([(shifted(floor, by), by) for by in all_places(floor)])


def led(one, other):
    """Tell the least shift by which one becomes other, or None."""
    for by in all_places(one):
        if shifted(one, by) == other:
            return by
    return None

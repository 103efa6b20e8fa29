"""Windows: what is seen of a floor through a shape."""

from windowfloor.basics import first_alike, power
from windowfloor.floors import MOST_SIGNS, all_places, size


def window(floor, shape, place):
    """Tell the signs at the shape's cells, seen from the place."""
    high, wide = size(floor)
    r, c = place
    return tuple([floor[(r + i) % high][(c + j) % wide] for i, j in shape])


def fits(signs, seen):
    """Tell whether the window's signs are those seen, but for torn cells."""
    return all([told is None or told == sign for sign, told in zip(signs, seen)])


def places_of(floor, shape, seen):
    """Tell the rising tuple of all places that what is seen fits."""
    return tuple([place for place in all_places(floor) if fits(window(floor, shape, place), seen)])


def all_windows(floor, shape):
    """Tell the list of the windows at all places, in the places' order."""
    return [window(floor, shape, place) for place in all_places(floor)]


def twins(floor, shape):
    """Tell the least two places with alike windows, or None."""
    return first_alike(all_places(floor), all_windows(floor, shape))


def is_full(floor, shape, k):
    """Tell whether each tuple of numbers below k is the window of just one place, and no other is."""
    high, wide = size(floor)
    # As many windows as tuples, all unlike and all below k: so each tuple is one of them.
    if k > MOST_SIGNS or high * wide != power(k, len(shape)):
        return False
    if any([sign >= k for row in floor for sign in row]):
        return False
    return twins(floor, shape) is None

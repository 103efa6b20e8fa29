"""Torn floors filled so that they are whole, or a tree that shows that they can't be."""

from windowfloor.basics import first_alike, power
from windowfloor.errors import TooGreat
from windowfloor.floors import all_places
from windowfloor.windows import window

MOST_WAYS = 300


def open_places(torn):
    """Tell the rising list of the places whose signs are not told."""
    return [(r, c) for r, c in all_places(torn) if torn[r][c] is None]


def with_sign(torn, place, sign):
    """Tell the torn floor with the sign at the place."""
    r, c = place
    row = torn[r][:c] + (sign,) + torn[r][c + 1:]
    return torn[:r] + (row,) + torn[r + 1:]


def told_twins(torn, shape):
    """Tell the least two places with alike windows among those of which all cells are told, or None."""
    spots = [place for place in all_places(torn) if None not in window(torn, shape, place)]
    return first_alike(spots, [window(torn, shape, place) for place in spots])


def searched(torn, holes, k, shape):
    """Tell ("floor", floor) or ("tree", tree) of the torn floor with these places not told."""
    pair = told_twins(torn, shape)
    if pair is not None:
        return ("tree", ("twins", pair[0], pair[1]))
    if not holes:
        return ("floor", torn)
    trees = []
    for sign in range(k):
        sort, told = searched(with_sign(torn, holes[0], sign), holes[1:], k, shape)
        if sort == "floor":
            return (sort, told)
        trees.append(told)
    return ("tree", ("cell", holes[0], tuple(trees)))


def filled(torn, k, shape):
    """Tell ("floor", floor), filled with signs below k and whole for the shape, else ("tree", tree)."""
    holes = open_places(torn)
    if power(k, len(holes)) > MOST_WAYS:
        raise TooGreat("there are more than 300 ways to fill it")
    return searched(torn, holes, k, shape)

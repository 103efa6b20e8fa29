"""Shapes: the cells through which a floor is seen."""

from windowfloor.basics import is_pair_below

MOST_CELLS = 16
CELL_BOUND = 40


def is_shape(thing):
    """Tell, of anything, whether it is a shape."""
    if not isinstance(thing, tuple) or not 1 <= len(thing) <= MOST_CELLS:
        return False
    if not all([is_pair_below(cell, CELL_BOUND, CELL_BOUND) for cell in thing]):
        return False
    if not all([one < other for one, other in zip(thing, thing[1:])]):
        return False
    return min([i for i, j in thing]) == 0 and min([j for i, j in thing]) == 0


def box(a, b):
    """Tell the shape of all cells in a rows and b columns."""
    return tuple([(i, j) for i in range(a) for j in range(b)])

"""Moves: floors shifted, crossed, flipped, with their signs exchanged."""

from windowfloor.basics import is_below, is_whole, turned
from windowfloor.floors import MOST_SIGNS, size


def is_move(thing):
    """Tell, of anything, whether it is a move."""
    if not isinstance(thing, tuple) or len(thing) == 0 or not isinstance(thing[0], str):
        return False
    name = thing[0]
    if name == "shift":
        return len(thing) == 3 and is_whole(thing[1]) and is_whole(thing[2])
    if name == "signs":
        return len(thing) == 2 and is_order(thing[1])
    return name in ("cross", "flip") and len(thing) == 1


def is_order(thing):
    """Tell, of anything, whether it has each number below its length once."""
    if not isinstance(thing, tuple) or not 1 <= len(thing) <= MOST_SIGNS:
        return False
    many = len(thing)
    return all([is_below(number, many) for number in thing]) and len(set(thing)) == many


def moved_floor(move, floor):
    """Tell the floor as the move leaves it."""
    name = move[0]
    if name == "shift":
        return turned(tuple([turned(row, move[2]) for row in floor]), move[1])
    if name == "cross":
        high, wide = size(floor)
        return tuple([tuple([floor[r][c] for r in range(high)]) for c in range(wide)])
    if name == "flip":
        return floor[::-1]
    return tuple([exchanged(move[1], row) for row in floor])


def exchanged(order, signs):
    """Tell the signs exchanged by the order, None staying."""
    return tuple([exchanged_sign(order, sign) for sign in signs])


def exchanged_sign(order, sign):
    """Tell what the order puts in the place of the sign."""
    # A sign that the order doesn't reach stays: so the move can be undone even then.
    if sign is None or sign >= len(order):
        return sign
    return order[sign]


def depth(shape):
    """Tell the greatest row of the shape's cells."""
    return max([i for i, j in shape])


def moved_cells(move, shape):
    """Tell the list of where each cell goes, in the order of the cells."""
    if move[0] == "cross":
        return [(j, i) for i, j in shape]
    if move[0] == "flip":
        h = depth(shape)
        return [(h - i, j) for i, j in shape]
    return list(shape)


def moved_shape(move, shape):
    """Tell the shape through which the moved floor shows the moved windows."""
    return tuple(sorted(moved_cells(move, shape)))


def moved_place(move, floor, shape, place):
    """Tell the place at which the moved floor shows the moved window."""
    high, wide = size(floor)
    r, c = place
    if move[0] == "shift":
        return ((r - move[1]) % high, (c - move[2]) % wide)
    if move[0] == "cross":
        return (c, r)
    if move[0] == "flip":
        return ((high - 1 - depth(shape) - r) % high, c)
    return place


def moved_seen(move, shape, seen):
    """Tell what is so seen through the moved shape."""
    if move[0] == "signs":
        return exchanged(move[1], seen)
    sign_by_cell = dict(zip(moved_cells(move, shape), seen))
    return tuple([sign_by_cell[cell] for cell in moved_shape(move, shape)])


def back(move):
    """Tell the move that undoes this one."""
    if move[0] == "shift":
        return ("shift", -move[1], -move[2])
    if move[0] == "signs":
        order = move[1]
        return ("signs", tuple([order.index(sign) for sign in range(len(order))]))
    return move

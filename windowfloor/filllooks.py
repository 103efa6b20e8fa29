"""Whether something shows how a torn floor is filled, or that it can't be."""

from windowfloor.basics import is_named_pair
from windowfloor.filling import with_sign
from windowfloor.floors import is_floor, is_place, size
from windowfloor.windows import twins, window


def may_stand(sign, told, k):
    """Tell whether the sign may stand where this is told."""
    return sign < k if told is None else sign == told


def fills(torn, k, thing):
    """Tell, of anything, whether it is the torn floor with signs below k in the place of each None."""
    if not is_floor(thing) or size(thing) != size(torn):
        return False
    both = [pair for row, torn_row in zip(thing, torn) for pair in zip(row, torn_row)]
    return all([may_stand(sign, told, k) for sign, told in both])


def are_told_twins(torn, shape, one, other):
    """Tell, of anything, whether these are two places, rising, all cells of both windows told and alike."""
    if not is_place(torn, one) or not is_place(torn, other) or one >= other:
        return False
    signs = window(torn, shape, one)
    return None not in signs and signs == window(torn, shape, other)


def is_right_tree(torn, k, shape, thing):
    """Tell, of anything, whether it is a tree that is right for the torn floor as it is by then."""
    if not isinstance(thing, tuple) or len(thing) != 3 or not isinstance(thing[0], str):
        return False
    name, one, other = thing
    if name == "twins":
        return are_told_twins(torn, shape, one, other)
    return name == "cell" and is_right_cell(torn, k, shape, one, other)


def is_right_cell(torn, k, shape, place, trees):
    """Tell, of anything, whether they are a place not told, and a tree for each sign, right when it stands there."""
    if not is_place(torn, place) or torn[place[0]][place[1]] is not None:
        return False
    if not isinstance(trees, tuple) or len(trees) != k:
        return False
    for sign, tree in enumerate(trees):
        if not is_right_tree(with_sign(torn, place, sign), k, shape, tree):
            return False
    return True


def shows_filled(torn, k, shape, thing):
    """Tell, of anything, whether it is ("floor", floor) or ("tree", tree), and is right."""
    if not is_named_pair(thing):
        return False
    name, told = thing
    if name == "floor":
        return fills(torn, k, told) and twins(told, shape) is None
    return name == "tree" and is_right_tree(torn, k, shape, told)

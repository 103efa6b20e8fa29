"""Shapes that lean, and reading by parts where a laid floor is seen through one of them."""

from windowfloor.laying import laid_sign, sums_ahead
from windowfloor.words import word_at


def least_height(shape, a, j):
    """Tell the least row from which on column j has a cells in neighbouring rows, or None."""
    rows = [cell[0] for cell in shape if cell[1] == j]
    for i in rows:
        if all([i + step in rows for step in range(a)]):
            return i
    return None


def leans(shape, a, b):
    """Tell (j, heights) for the least j from which on the shape leans by a and b, or None."""
    wide = 1 + max([j for i, j in shape])
    all_heights = [least_height(shape, a, j) for j in range(wide)]
    for j in range(wide - b + 1):
        heights = all_heights[j:j + b]
        if None not in heights:
            return (j, tuple(heights))
    return None


def spot_of(row, word):
    """Tell the place of the round row at which the word stands, or None."""
    for at in range(len(row)):
        if word_at(row, len(word), at) == word:
            return at
    return None


def base_spots(base, a, lean, shape, seen):
    """Tell the list with, for each column that leans, the base's place of the a signs seen there, or None."""
    first, heights = lean
    sign_by_cell = dict(zip(shape, seen))
    spots = []
    for j, height in enumerate(heights, start=first):
        spots.append(spot_of(base, tuple([sign_by_cell[(height + step, j)] for step in range(a)])))
    return spots


def steps_between(spots, heights, n):
    """Tell the steps that lead from each spot to the next, less what the heights differ by."""
    # At height 0 the spots would be these, so they differ by the steps alone.
    lows = [spot - height for spot, height in zip(spots, heights)]
    return tuple([(other - one) % n for one, other in zip(lows, lows[1:])])


def read_laid(base, steps, a, b, shape, seen):
    """Tell the place at which the laid floor shows what is seen, or None."""
    first, heights = leans(shape, a, b)
    spots = base_spots(base, a, (first, heights), shape, seen)
    if None in spots:
        return None
    column = spot_of(steps, steps_between(spots, heights, len(base)))
    if column is None:
        return None
    sums = sums_ahead(steps)
    r = (spots[0] - heights[0] - sums[column]) % len(base)
    c = (column - first) % len(steps)
    # The cells that don't lean, too, must be those of this place.
    if tuple([laid_sign(base, sums, r + i, c + j) for i, j in shape]) != seen:
        return None
    return (r, c)

"""Floors laid of a base and of steps: each column is the base, turned further by a step."""

from windowfloor.basics import power
from windowfloor.errors import NotRound, NoWay, TooGreat
from windowfloor.floors import MOST_PLACES
from windowfloor.leastrows import least_row


def sums_ahead(steps):
    """Tell the list with, for each step, the sum of the steps ahead of it."""
    sums = []
    total = 0
    for step in steps:
        sums.append(total)
        total += step
    return sums


def laid_sign(base, sums, r, c):
    """Tell the sign at row r and column c of the laid floor, by their rests."""
    return base[(r + sums[c % len(sums)]) % len(base)]


def laid(base, steps):
    """Tell the floor whose columns are the base, each turned by the steps ahead of it."""
    n = len(base)
    if sum(steps) % n != 0:
        raise NotRound("all steps together are no multiple of the base's length")
    if n * len(steps) > MOST_PLACES:
        raise TooGreat("a floor has at most 600 places")
    sums = sums_ahead(steps)
    return tuple([tuple([laid_sign(base, sums, r, c) for c in range(len(steps))]) for r in range(n)])


def evened(steps, n):
    """Tell the steps with the least number put to each by which all together are a multiple of n."""
    total = sum(steps)
    for more in range(n):
        if (total + more * len(steps)) % n == 0:
            return tuple([(step + more) % n for step in steps])
    raise NoWay("no number put to each step makes them a multiple of n")


def full_floor(k, a, b):
    """Tell a floor that is full for the box of a rows and b columns, and k."""
    if power(k, a * b) > MOST_PLACES:
        raise TooGreat("a floor has at most 600 places")
    if b == 2 and k % 2 == 0:
        raise NoWay("the steps don't go round")
    # One step alone is told by a word of no numbers.
    steps = (0,) if b == 1 else least_row(power(k, a), b - 1)
    return laid(least_row(k, a), steps)

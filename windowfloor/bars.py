"""Bars: how many places a whole floor may have by counts, and the sizes that are too great for that."""

from windowfloor.basics import power
from windowfloor.counts import count_unlike_turns


def most_places(k, a, b, high, wide):
    """Tell how many places a floor of the size, of signs below k, whole for the box, may have by counts."""
    if a < high and b < wide:
        return power(k, a * b)
    if b < wide:
        # The box goes round all rows: each row of it counts as one sign, and a turn leads to the window above or below.
        return count_unlike_turns(power(k, b), high)
    if a < high:
        return count_unlike_turns(power(k, a), wide)
    return 1 if k == 1 else high * wide


def barred(k, a, b, high, wide):
    """Tell whether there is no such floor, as it has more places than it may have by counts."""
    return high * wide > most_places(k, a, b, high, wide)

"""Floors paired of two floors, and reading them by the places on both."""

from windowfloor.basics import greatest_part, inverse
from windowfloor.errors import TooGreat
from windowfloor.floors import MOST_PLACES, MOST_SIGNS, size
from windowfloor.windows import places_of


def meeting(one, m, other, n):
    """Tell the least number from 0 whose rest by m is one and by n is other, or None."""
    part = greatest_part(m, n)
    if (other - one) % part != 0:
        return None
    # It is one and some times m: so many that the rest by n comes right, which comes again behind n // part times.
    many = n // part
    times = (other - one) // part * inverse(m // part, many) % many
    return one + times * m


def least_multiple(m, n):
    """Tell the least number from 1 that m and n part without rest."""
    return m // greatest_part(m, n) * n


def paired_sign(one, other, k, r, c):
    """Tell what stands at row r and column c of the paired floor, by the rests."""
    high, wide = size(one)
    other_high, other_wide = size(other)
    return one[r % high][c % wide] * k + other[r % other_high][c % other_wide]


def paired(one, other, k):
    """Tell the floor whose signs tell those of both floors, other's signs below k."""
    high = least_multiple(len(one), len(other))
    wide = least_multiple(len(one[0]), len(other[0]))
    if high * wide > MOST_PLACES:
        raise TooGreat("a floor has at most 600 places")
    floor = tuple([tuple([paired_sign(one, other, k, r, c) for c in range(wide)]) for r in range(high)])
    if any([sign >= MOST_SIGNS for row in floor for sign in row]):
        raise TooGreat("a sign is at most 35")
    return floor


def read_paired(one, other, k, shape, seen):
    """Tell the place at which the paired floor shows what is seen, or None."""
    places = places_of(one, shape, tuple([sign // k for sign in seen]))
    other_places = places_of(other, shape, tuple([sign % k for sign in seen]))
    if not places or not other_places:
        return None
    # Both floors are whole, so there is one place on each.
    (r, c), (other_r, other_c) = places[0], other_places[0]
    down = meeting(r, len(one), other_r, len(other))
    right = meeting(c, len(one[0]), other_c, len(other[0]))
    if down is None or right is None:
        return None
    return (down, right)

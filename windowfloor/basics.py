"""What several modules need: whole numbers, powers, parts, turns, things alike, what comes round."""


def is_whole(thing):
    """Tell whether it is a whole number."""
    # Python counts truths among the ints; here they are no numbers.
    return isinstance(thing, int) and not isinstance(thing, bool)


def is_below(thing, bound):
    """Tell whether it is a whole number from 0 to below bound."""
    return is_whole(thing) and 0 <= thing < bound


def is_pair_below(thing, high, wide):
    """Tell whether it is a tuple of a number below high and one below wide."""
    if not isinstance(thing, tuple) or len(thing) != 2:
        return False
    return is_below(thing[0], high) and is_below(thing[1], wide)


def is_word(thing, bound, many):
    """Tell whether it is a tuple of so many numbers below bound."""
    return isinstance(thing, tuple) and len(thing) == many and all([is_below(number, bound) for number in thing])


def is_named_pair(thing):
    """Tell whether it is a tuple of a text and something else."""
    return isinstance(thing, tuple) and len(thing) == 2 and isinstance(thing[0], str)


def power(k, n):
    """Tell k times itself, n times in all."""
    total = 1
    for step in range(n):
        total *= k
    return total


def greatest_part(m, n):
    """Tell the greatest number that parts both m and n without rest."""
    while n != 0:
        m, n = n, m % n
    return m


def inverse(number, n):
    """Tell the number below n that times this one leaves 1 by n, where no number above 1 parts both."""
    rest, next_rest = n, number % n
    # Each rest is, but for multiples of n, its factor times the number.
    factor, next_factor = 0, 1
    while next_rest != 0:
        times = rest // next_rest
        rest, next_rest = next_rest, rest - times * next_rest
        factor, next_factor = next_factor, factor - times * next_factor
    return factor % n


def turned(row, by):
    """Tell the row from its place by on, round."""
    at = by % len(row)
    return row[at:] + row[:at]


def first_alike(spots, looks):
    """Tell the least two of the rising spots whose looks are alike, or None."""
    spots_by_look = {}
    for spot, look in zip(spots, looks):
        if look not in spots_by_look:
            spots_by_look[look] = []
        spots_by_look[look].append(spot)
    # A dict keeps its order, so the looks come by their first spots.
    for found in spots_by_look.values():
        if len(found) > 1:
            return (found[0], found[1])
    return None


def gone_round(start, step):
    """Tell the list of what comes from the start on, each by the step from the last, until one comes again."""
    gone = []
    stood = set()
    now = start
    while now not in stood:
        stood.add(now)
        gone.append(now)
        now = step(now)
    return gone

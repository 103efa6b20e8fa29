"""Round rows, and the words that stand in them."""

from windowfloor.basics import first_alike, is_below, power
from windowfloor.errors import TooGreat

MOST_NUMBERS = 600


def is_row(thing):
    """Tell, of anything, whether it is a round row."""
    if not isinstance(thing, tuple) or not 1 <= len(thing) <= MOST_NUMBERS:
        return False
    return all([is_below(number, MOST_NUMBERS) for number in thing])


def word_at(row, n, at):
    """Tell the n numbers from the place on, round."""
    return tuple([row[(at + step) % len(row)] for step in range(n)])


def row_twins(row, n):
    """Tell the least two places with alike words of n, or None."""
    spots = list(range(len(row)))
    return first_alike(spots, [word_at(row, n, at) for at in spots])


def is_full_row(row, k, n):
    """Tell whether each word of n numbers below k stands at just one place, and no other does."""
    # As many words as there are tuples, all unlike and all below k: so each tuple is one of them.
    if len(row) != power(k, n) or any([number >= k for number in row]):
        return False
    return row_twins(row, n) is None


def count_words(k, n):
    """Tell how many words of n numbers below k there are, refused where a row can't have them all."""
    many = power(k, n)
    if many > MOST_NUMBERS:
        raise TooGreat("a round row has at most 600 numbers")
    return many

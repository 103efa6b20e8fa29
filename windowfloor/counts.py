"""How many words there are that are unlike to all of their own turns."""

from windowfloor.basics import power


def count_unlike_turns(many, length):
    """Tell how many words of the length, of so many signs, are unlike to each of their own turns."""
    # Each other word is such a one of a lesser length that parts this one, put behind itself again and again.
    others = [count_unlike_turns(many, part) for part in range(1, length) if length % part == 0]
    return power(many, length) - sum(others)

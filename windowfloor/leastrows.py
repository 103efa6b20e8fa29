"""The least of all full rows, made of words that are less than their turns."""

from windowfloor.basics import power, turned
from windowfloor.rules import word_of
from windowfloor.words import count_words


def is_least_turn(word):
    """Tell whether the word is less than each of its other turns."""
    return all([word < turned(word, by) for by in range(1, len(word))])


def least_turns(k, length):
    """Tell the list of all words of the length that are less than their other turns."""
    words = [word_of(number, k, length) for number in range(power(k, length))]
    return [word for word in words if is_least_turn(word)]


def least_words(k, n):
    """Tell the rising tuple of the words of which the least row is made."""
    # Asked for its refusal alone.
    count_words(k, n)
    words = []
    for length in range(1, n + 1):
        if n % length == 0:
            words.extend(least_turns(k, length))
    return tuple(sorted(words))


def least_row(k, n):
    """Tell the least of all full rows."""
    return tuple([number for word in least_words(k, n) for number in word])

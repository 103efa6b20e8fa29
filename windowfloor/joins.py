"""The cycles of an even rule joined to one, by exchanges between kin words."""

from windowfloor.basics import power
from windowfloor.rules import cycle_numbers, cycles


def first_worth(k, n):
    """Tell for how much a word's first number counts in the word's number."""
    return power(k, n - 1)


def kin_pairs(k, n):
    """Tell the list of the pairs of each word that begins with 0 and each of its other kin."""
    worth = first_worth(k, n)
    return [(low, low + first * worth) for low in range(worth) for first in range(1, k)]


def cycle_marks(k, rule):
    """Tell the list with a mark for each word, alike for the words of one cycle."""
    marks = [0] * len(rule)
    for mark, numbers in enumerate(cycle_numbers(k, rule)):
        for number in numbers:
            marks[number] = mark
    return marks


def joined(k, n, rule):
    """Tell (row, joins): the exchanges that join all cycles, and the round row of the one that is left."""
    puts = list(rule)
    marks = cycle_marks(k, rule)
    joins = []
    for one, other in kin_pairs(k, n):
        kept, gone = marks[one], marks[other]
        if kept != gone:
            puts[one], puts[other] = puts[other], puts[one]
            marks = [kept if mark == gone else mark for mark in marks]
            joins.append((one, other))
    # By now all kin share a cycle. Each word follows one of the kin that may lead to it, so all words share one.
    return (cycles(k, n, tuple(puts))[0], tuple(joins))

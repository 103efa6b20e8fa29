"""Point 11: full rows, made in three ways."""

import itertools
import unittest

from tests.helpers import is_plain
from windowfloor.errors import FloorError, TooGreat
from windowfloor.leastrows import least_row, least_words
from windowfloor.otherrows import greatest_row, walked_row
from windowfloor.words import is_full_row, is_row

MAKERS = (least_row, greatest_row, walked_row)
SIZES = [(k, n) for n in range(2, 41) for k in range(1, 25) if k ** n <= 600]
SIZES += [(1, 1), (2, 1), (3, 1), (36, 1), (599, 1), (600, 1)]
SMALL_SIZES = [(1, 1), (1, 2), (1, 5), (1, 40), (2, 1), (2, 2), (2, 3), (3, 1), (3, 2), (4, 1), (7, 1)]
GREAT_SIZES = [(601, 1), (25, 2), (9, 3), (2, 10), (3, 6), (2, 40), (600, 2), (600, 40), (10 ** 6, 1), (10 ** 6, 40)]


def naive_least_words(k, n):
    found = []
    for length in range(1, n + 1):
        if n % length == 0:
            for word in itertools.product(range(k), repeat=length):
                turns = [word[by:] + word[:by] for by in range(1, length)]
                if all(word < turn for turn in turns):
                    found.append(word)
    return tuple(sorted(found))


def naive_least_row(k, n):
    """The first of all rows that is full, in the order of the rows."""
    for row in itertools.product(range(k), repeat=k ** n):
        words = {(row * (n + 1))[at:at + n] for at in range(len(row))}
        if len(words) == len(row):
            return row


def naive_greatest_row(k, n):
    row = [0] * n
    stood = [tuple(row)]
    while True:
        for put in range(k - 1, -1, -1):
            word = tuple((row + [put])[-n:])
            if word not in stood:
                stood.append(word)
                row.append(put)
                break
        else:
            return tuple(row[:k ** n])


class Refusals(unittest.TestCase):
    def test_more_than_600_words(self):
        for maker in (*MAKERS, least_words):
            for k, n in GREAT_SIZES:
                with self.assertRaises(FloorError) as caught:
                    maker(k, n)
                self.assertIs(type(caught.exception), TooGreat)

    def test_not_of_600_and_fewer(self):
        for maker in (*MAKERS, least_words):
            for k, n in ((600, 1), (24, 2), (8, 3), (2, 9), (1, 40)):
                self.assertTrue(is_plain(maker(k, n)))


class Rows(unittest.TestCase):
    def test_each_is_full(self):
        for maker, (k, n) in itertools.product(MAKERS, SIZES):
            row = maker(k, n)
            self.assertIs(is_row(row), True)
            self.assertEqual(len(row), k ** n)
            self.assertIs(is_full_row(row, k, n), True, (maker, k, n))
            self.assertTrue(is_plain(row))

    def test_k_of_one(self):
        for maker, n in itertools.product(MAKERS, (1, 2, 39, 40)):
            self.assertEqual(maker(1, n), (0,))

    def test_the_same_again(self):
        for maker, (k, n) in itertools.product(MAKERS, SMALL_SIZES):
            self.assertEqual(maker(k, n), maker(k, n))


class Least(unittest.TestCase):
    def test_by_hand(self):
        self.assertEqual(least_words(2, 3), ((0,), (0, 0, 1), (0, 1, 1), (1,)))
        self.assertEqual(least_words(2, 4), ((0,), (0, 0, 0, 1), (0, 0, 1, 1), (0, 1), (0, 1, 1, 1), (1,)))
        self.assertEqual(least_words(3, 1), ((0,), (1,), (2,)))
        self.assertEqual(least_words(1, 40), ((0,),))
        self.assertEqual(least_row(2, 3), (0, 0, 0, 1, 0, 1, 1, 1))
        self.assertEqual(least_row(3, 2), (0, 0, 1, 0, 2, 1, 1, 2, 2))
        self.assertEqual(least_row(600, 1), tuple(range(600)))

    def test_words_as_the_definition(self):
        for k, n in SIZES:
            told = least_words(k, n)
            self.assertEqual(told, naive_least_words(k, n))
            self.assertTrue(is_plain(told))

    def test_row_is_its_words(self):
        for k, n in SIZES:
            self.assertEqual(least_row(k, n), sum(least_words(k, n), ()))

    def test_least_of_all_full_rows(self):
        for k, n in SMALL_SIZES:
            self.assertEqual(least_row(k, n), naive_least_row(k, n))

    def test_less_than_the_others(self):
        for k, n in SIZES:
            self.assertLessEqual(least_row(k, n), greatest_row(k, n))
            self.assertLessEqual(least_row(k, n), walked_row(k, n))


class Greatest(unittest.TestCase):
    def test_by_hand(self):
        self.assertEqual(greatest_row(2, 3), (0, 0, 0, 1, 1, 1, 0, 1))
        self.assertEqual(greatest_row(3, 2), (0, 0, 2, 2, 1, 2, 0, 1, 1))
        self.assertEqual(greatest_row(4, 1), (0, 3, 2, 1))
        self.assertEqual(greatest_row(600, 1), (0, *range(599, 0, -1)))

    def test_as_the_definition(self):
        for k, n in SIZES:
            if k < 100:
                self.assertEqual(greatest_row(k, n), naive_greatest_row(k, n))


class Walked(unittest.TestCase):
    def test_begins_with_noughts(self):
        for k, n in SIZES:
            self.assertEqual((walked_row(k, n) * n)[:n], (0,) * n)

"""Point 10: round rows and their words."""

import itertools
import unittest

from tests.helpers import STRANGE_THINGS, is_plain, nested
from windowfloor.words import is_full_row, is_row, row_twins, word_at

ROWS = [
    (0,), (599,), (0, 0), (0, 1), (1, 0, 1, 0), (0, 0, 1, 1), (0, 1, 2, 0, 1, 3), (5, 5, 5), (0, 0, 0, 1, 0, 1, 1, 1),
    (4, 3, 2, 3, 4), (0, 0, 2, 2, 1, 2, 0, 1, 1),
]


def naive_word(row, n, at):
    return (row * (n + 1))[at:at + n]


def naive_full(row, k, n):
    words = [naive_word(row, n, at) for at in range(len(row))]
    return sorted(words) == list(itertools.product(range(k), repeat=n))


class IsRow(unittest.TestCase):
    def test_rows(self):
        for row in ROWS:
            self.assertIs(is_row(row), True)

    def test_one_to_600_numbers(self):
        self.assertIs(is_row((0,)), True)
        self.assertIs(is_row((599,) * 600), True)
        self.assertIs(is_row(tuple(range(600))), True)
        self.assertIs(is_row(()), False)
        self.assertIs(is_row((0,) * 601), False)
        self.assertIs(is_row((0,) * 1000), False)

    def test_numbers_to_599(self):
        for number in (-1, 600, 601, 10 ** 6, -10 ** 6):
            self.assertIs(is_row((number,)), False)
            self.assertIs(is_row((0,) * 599 + (number,)), False)

    def test_strange_things(self):
        for thing in STRANGE_THINGS:
            self.assertIs(is_row(thing), False, repr(thing))
            is_number = type(thing) is int and 0 <= thing <= 599
            self.assertIs(is_row((thing,)), is_number, repr(thing))
            self.assertIs(is_row((0, thing)), is_number, repr(thing))

    def test_kinds(self):
        for thing in ([0], [0, 1], (True,), (0, False), ((0,),), (0, (1,)), "01", b"01", range(3), nested(29, (0,)), (None,)):
            self.assertIs(is_row(thing), False, thing)


class WordAt(unittest.TestCase):
    def test_by_hand(self):
        self.assertEqual(word_at((5, 6, 7), 1, 2), (7,))
        self.assertEqual(word_at((5, 6, 7), 2, 2), (7, 5))
        self.assertEqual(word_at((5, 6, 7), 3, 1), (6, 7, 5))

    def test_words_longer_than_the_row(self):
        self.assertEqual(word_at((5, 6, 7), 7, 1), (6, 7, 5, 6, 7, 5, 6))
        self.assertEqual(word_at((9,), 40, 0), (9,) * 40)

    def test_as_the_definition(self):
        for row in ROWS + [tuple(range(600))]:
            for n in (1, 2, 3, 7, 40):
                for at in range(len(row)):
                    self.assertEqual(word_at(row, n, at), naive_word(row, n, at))
                self.assertTrue(is_plain(word_at(row, n, 0)))


class RowTwins(unittest.TestCase):
    def test_by_hand(self):
        self.assertIsNone(row_twins((0,), 1))
        self.assertIsNone(row_twins((0, 0, 1, 1), 2))
        self.assertEqual(row_twins((0, 0, 1, 1), 1), (0, 1))
        self.assertEqual(row_twins((0, 1, 1, 0), 1), (0, 3))
        self.assertEqual(row_twins((2, 0, 1, 1, 0, 0), 1), (1, 4))
        self.assertEqual(row_twins((1, 0, 1, 0), 40), (0, 2))

    def test_as_the_definition(self):
        for row in ROWS:
            for n in (1, 2, 3, 4, 40):
                pairs = itertools.combinations(range(len(row)), 2)
                alike = [(p, q) for p, q in pairs if naive_word(row, n, p) == naive_word(row, n, q)]
                self.assertEqual(row_twins(row, n), min(alike, default=None))
                self.assertTrue(is_plain(row_twins(row, n)))

    def test_600_numbers(self):
        self.assertIsNone(row_twins(tuple(range(600)), 1))
        self.assertEqual(row_twins((3,) * 600, 40), (0, 1))
        self.assertIsNone(row_twins((0,) * 599 + (1,), 600))
        self.assertEqual(row_twins((0,) * 599 + (1,), 40), (0, 1))
        self.assertEqual(row_twins(tuple(range(300)) * 2, 40), (0, 300))


class IsFullRow(unittest.TestCase):
    def test_by_hand(self):
        self.assertIs(is_full_row((0, 0, 1, 1), 2, 2), True)
        self.assertIs(is_full_row((1, 0, 0, 1), 2, 2), True)
        self.assertIs(is_full_row((0, 1, 0, 1), 2, 2), False)
        self.assertIs(is_full_row((0, 0, 1, 2), 2, 2), False)
        self.assertIs(is_full_row((0, 0, 2, 2), 2, 2), False)
        self.assertIs(is_full_row((0, 0, 1, 1), 3, 2), False)
        self.assertIs(is_full_row((0, 0, 1), 2, 2), False)
        self.assertIs(is_full_row((2, 0, 1), 3, 1), True)

    def test_k_of_one(self):
        for n in (1, 2, 39, 40):
            self.assertIs(is_full_row((0,), 1, n), True)
            self.assertIs(is_full_row((1,), 1, n), False)
            self.assertIs(is_full_row((0, 0), 1, n), False)

    def test_600_words(self):
        self.assertIs(is_full_row(tuple(range(600)), 600, 1), True)
        self.assertIs(is_full_row(tuple(range(600))[::-1], 600, 1), True)
        self.assertIs(is_full_row(tuple(range(599)) + (0,), 600, 1), False)
        self.assertIs(is_full_row(tuple(range(599)), 600, 1), False)
        self.assertIs(is_full_row(tuple(range(600)), 599, 1), False)

    def test_more_words_than_a_row_may_have(self):
        for k, n in ((600, 40), (2, 10), (25, 2), (600, 2), (2, 40)):
            self.assertIs(is_full_row(tuple(range(600)), k, n), False)
            self.assertIs(is_full_row((0,), k, n), False)

    def test_as_the_definition(self):
        for k, n in ((1, 1), (1, 3), (2, 1), (2, 2), (2, 3), (3, 1), (3, 2), (4, 1)):
            for row in ROWS:
                self.assertIs(is_full_row(row, k, n), naive_full(row, k, n))
        for row in itertools.product(range(2), repeat=8):
            self.assertIs(is_full_row(row, 2, 3), naive_full(row, 2, 3))

"""Point 30: how many places a whole floor may have by counts, and sizes that are barred."""

import functools
import itertools
import unittest

from tests.helpers import is_plain, places, seen_at
from windowfloor.bars import barred, most_places
from windowfloor.counts import count_unlike_turns
from windowfloor.laying import full_floor
from windowfloor.shapes import box
from windowfloor.windows import twins


@functools.lru_cache(maxsize=None)
def naive_tables(k, high, wide):
    """How many tables of signs below k are unlike to each of their own turns up and down."""
    rows = list(itertools.product(range(k), repeat=wide))
    tables = itertools.product(rows, repeat=high)
    return sum(all(table != table[by:] + table[:by] for by in range(1, high)) for table in tables)


def naive_most(k, a, b, high, wide):
    if a < high and b < wide:
        return k ** (a * b)
    if b < wide:
        return naive_tables(k, high, b)
    if a < high:
        # To the side what is up and down when rows and columns are crossed.
        return naive_tables(k, wide, a)
    return 1 if k == 1 else high * wide


class MostPlaces(unittest.TestCase):
    def test_inner_boxes(self):
        self.assertEqual(most_places(2, 2, 2, 4, 4), 16)
        self.assertEqual(most_places(2, 1, 1, 2, 2), 2)
        self.assertEqual(most_places(3, 1, 2, 600, 600), 9)
        self.assertEqual(most_places(36, 4, 4, 5, 5), 36 ** 16)
        self.assertEqual(most_places(36, 1, 16, 600, 600), 36 ** 16)
        self.assertEqual(most_places(1, 4, 4, 600, 600), 1)

    def test_a_just_high_and_one_less(self):
        # Of 2 ** 4 rows of four signs of two sorts, 4 are alike to a turn of theirs.
        self.assertEqual(most_places(2, 4, 1, 4, 9), 12)
        self.assertEqual(most_places(2, 3, 1, 4, 9), 8)
        self.assertEqual(most_places(2, 5, 1, 4, 9), 12)
        self.assertEqual(most_places(2, 16, 1, 4, 9), 12)
        self.assertEqual(most_places(2, 4, 2, 4, 9), 256 - 16)
        self.assertEqual(most_places(2, 8, 2, 4, 9), 256 - 16)

    def test_b_just_wide_and_one_less(self):
        self.assertEqual(most_places(2, 1, 4, 9, 4), 12)
        self.assertEqual(most_places(2, 1, 3, 9, 4), 8)
        self.assertEqual(most_places(2, 1, 5, 9, 4), 12)
        self.assertEqual(most_places(2, 2, 4, 9, 4), 256 - 16)

    def test_both(self):
        self.assertEqual(most_places(2, 4, 4, 4, 4), 16)
        self.assertEqual(most_places(2, 1, 1, 1, 1), 1)
        self.assertEqual(most_places(36, 3, 5, 2, 4), 8)
        self.assertEqual(most_places(1, 4, 4, 4, 4), 1)
        self.assertEqual(most_places(1, 2, 3, 1, 1), 1)

    def test_k_1(self):
        # One table alone, alike to its turns wherever there are any.
        self.assertEqual(most_places(1, 1, 1, 1, 600), 1)
        self.assertEqual(most_places(1, 1, 1, 600, 1), 1)
        self.assertEqual(most_places(1, 2, 1, 2, 3), 0)
        self.assertEqual(most_places(1, 16, 1, 12, 600), 0)
        self.assertEqual(most_places(1, 1, 2, 3, 2), 0)
        self.assertEqual(most_places(1, 3, 2, 3, 2), 1)

    def test_high_or_wide_1(self):
        for k, a in itertools.product((1, 2, 3, 36), range(1, 5)):
            self.assertEqual(most_places(k, a, 3, 1, 600), k ** 3)
            self.assertEqual(most_places(k, 3, a, 600, 1), k ** 3)
            self.assertEqual(most_places(k, a, 3, 1, 4), k ** 3)
        self.assertEqual(most_places(2, 1, 16, 1, 16), 16)
        self.assertEqual(most_places(2, 1, 16, 1, 17), 2 ** 16)
        self.assertEqual(most_places(2, 1, 16, 600, 16), 2 ** 16 - 2 ** 8)

    def test_many_divisors_and_primes(self):
        # Words of 12 whose turns are unlike: less those that are two, three, four, six or twelve times a part.
        self.assertEqual(most_places(2, 12, 1, 12, 40), 2 ** 12 - 2 ** 6 - 2 ** 4 + 2 ** 2)
        self.assertEqual(most_places(5, 1, 12, 40, 12), 5 ** 12 - 5 ** 6 - 5 ** 4 + 5 ** 2)
        self.assertEqual(most_places(36, 16, 1, 16, 600), 36 ** 16 - 36 ** 8)
        for prime in (2, 3, 5, 7, 11, 13):
            self.assertEqual(most_places(3, prime, 1, prime, 600), 3 ** prime - 3)
            self.assertEqual(most_places(36, 16, 1, prime, 600), 36 ** prime - 36)

    def test_as_the_definition(self):
        for k, a, b in itertools.product((1, 2, 3), range(1, 7), range(1, 7)):
            for high, wide in itertools.product(range(1, 7), repeat=2):
                if a * b <= 16 and k ** max(min(a, high) * b, a * min(b, wide)) <= 5000:
                    told = most_places(k, a, b, high, wide)
                    self.assertEqual(told, naive_most(k, a, b, high, wide), (k, a, b, high, wide))
                    self.assertTrue(is_plain(told))

    def test_crossed(self):
        for k, a, b, high, wide in itertools.product((1, 2, 36), (1, 2, 4), (1, 3, 4), (1, 2, 4, 600), (1, 3, 4, 599)):
            self.assertEqual(most_places(k, a, b, high, wide), most_places(k, b, a, wide, high))


class Counts(unittest.TestCase):
    def test_as_the_definition(self):
        for many, length in itertools.product(range(1, 5), range(1, 7)):
            self.assertEqual(count_unlike_turns(many, length), naive_tables(many, length, 1), (many, length))


class Barred(unittest.TestCase):
    def test_just_as_many_and_one_row_more(self):
        for k, a, b, high, wide in (
            (2, 2, 2, 4, 4), (3, 1, 2, 3, 3), (2, 2, 3, 8, 8), (2, 1, 3, 1, 8), (36, 1, 1, 6, 6), (2, 1, 4, 3, 4),
            (2, 2, 4, 60, 4), (5, 2, 2, 25, 25), (2, 1, 3, 2, 3),
        ):
            self.assertEqual(most_places(k, a, b, high, wide), high * wide)
            self.assertIs(barred(k, a, b, high, wide), False, (k, a, b, high, wide))
            self.assertIs(barred(k, a, b, high + 1, wide), True, (k, a, b, high + 1, wide))

    def test_by_hand(self):
        self.assertIs(barred(2, 1, 1, 1, 2), False)
        self.assertIs(barred(2, 1, 1, 1, 3), True)
        self.assertIs(barred(1, 1, 1, 1, 1), False)
        self.assertIs(barred(1, 4, 4, 1, 2), True)
        self.assertIs(barred(2, 4, 4, 4, 4), False)
        self.assertIs(barred(36, 1, 1, 600, 600), True)
        self.assertIs(barred(36, 4, 4, 600, 600), False)
        self.assertIs(barred(2, 4, 1, 4, 3), False)
        self.assertIs(barred(2, 4, 1, 4, 4), True)

    def test_as_the_definition(self):
        for k, a, b, high, wide in itertools.product((1, 2, 3, 36), (1, 2, 3), (1, 2, 3), (1, 2, 3, 9, 600), (1, 2, 5, 600)):
            self.assertIs(barred(k, a, b, high, wide), high * wide > most_places(k, a, b, high, wide))

    def test_no_barred_floor_is_whole(self):
        barred_ones = 0
        for high, wide in ((1, 1), (1, 2), (2, 1), (1, 4), (2, 2), (2, 3), (3, 2), (1, 6), (3, 3), (2, 4)):
            for a, b in itertools.product(range(1, 4), repeat=2):
                if barred(2, a, b, high, wide):
                    barred_ones += 1
                    rows = list(itertools.product(range(2), repeat=wide))
                    for floor in itertools.product(rows, repeat=high):
                        looks = {seen_at(floor, box(a, b), place) for place in places(floor)}
                        self.assertLess(len(looks), high * wide, (floor, a, b))
        self.assertGreater(barred_ones, 10)

    def test_full_floors_are_just_open(self):
        for k, a, b in ((2, 1, 3), (2, 2, 3), (3, 1, 2), (3, 2, 1), (5, 1, 2), (2, 3, 3), (24, 1, 1)):
            floor = full_floor(k, a, b)
            self.assertIsNone(twins(floor, box(a, b)))
            self.assertIs(barred(k, a, b, len(floor), len(floor[0])), False)
            if a < len(floor) and b < len(floor[0]):
                self.assertEqual(most_places(k, a, b, len(floor), len(floor[0])), len(places(floor)))

"""Point 3, the promise, as far as it is built, and point 2 for all that is built."""

import itertools
import random
import unittest

from tests.helpers import FLOORS, SHAPES, places, some_laid, some_rule
from windowfloor.joinlooks import shows_joins
from windowfloor.joins import joined
from windowfloor.laying import laid
from windowfloor.leaning import read_laid
from windowfloor.leastrows import least_row
from windowfloor.moves import moved_floor, moved_place, moved_seen, moved_shape
from windowfloor.otherrows import greatest_row, walked_row
from windowfloor.shifts import beside
from windowfloor.windows import places_of, twins, window
from windowfloor.words import is_full_row, row_twins

MOVES = [("shift", 1, 2), ("shift", -10 ** 6, 10 ** 6), ("cross",), ("flip",), ("signs", tuple(range(36))[::-1])]


class Whole(unittest.TestCase):
    """(a)"""

    def test_no_twins_or_the_first_two(self):
        for floor, shape in itertools.product(FLOORS, SHAPES):
            told = twins(floor, shape)
            alike = [places_of(floor, shape, window(floor, shape, place)) for place in places(floor)]
            if told is None:
                self.assertTrue(all(len(found) == 1 for found in alike))
            else:
                self.assertEqual(told, min(found[:2] for found in alike if len(found) > 1))


class FullRows(unittest.TestCase):
    """(b)"""

    def test_rows_made_by_unlike_ways_are_full(self):
        for k, n in ((1, 1), (1, 40), (2, 1), (2, 9), (3, 5), (4, 4), (5, 3), (24, 2), (600, 1)):
            for row in (least_row(k, n), greatest_row(k, n), walked_row(k, n)):
                self.assertIs(is_full_row(row, k, n), True)
                self.assertIsNone(row_twins(row, n))

    def test_the_joined_row_of_any_even_rule_is_full(self):
        chance = random.Random(3)
        for k, n in ((1, 1), (1, 40), (2, 1), (2, 6), (2, 9), (3, 4), (4, 4), (5, 3), (24, 2), (600, 1)):
            for count in range(5):
                rule = some_rule(k, n, chance)
                row, joins = joined(k, n, rule)
                self.assertIs(is_full_row(row, k, n), True)
                self.assertIs(shows_joins(k, n, rule, (row, joins)), True)
                if k > 1:
                    self.assertIs(shows_joins(k, n, rule, (row, joins + ((0, k ** (n - 1)),))), False)


class LaidFloors(unittest.TestCase):
    """(c), what is said of laid floors"""

    def test_whole_for_each_shape_that_leans_and_read_by_parts(self):
        chance = random.Random(4)
        for base, steps, a, b, shape in some_laid(chance, 200):
            floor = laid(base, steps)
            self.assertIsNone(twins(floor, shape))
            for seen in [window(floor, shape, place) for place in places(floor)]:
                self.assertEqual((read_laid(base, steps, a, b, shape, seen),), places_of(floor, shape, seen))
            for count in range(20):
                seen = tuple(chance.randrange(3) for cell in shape)
                told = read_laid(base, steps, a, b, shape, seen)
                self.assertEqual(() if told is None else (told,), places_of(floor, shape, seen))


class Moved(unittest.TestCase):
    """(g), its first half"""

    def test_moved_windows_at_moved_places(self):
        for move, floor, shape in itertools.product(MOVES, FLOORS, SHAPES):
            floor_then, shape_then = moved_floor(move, floor), moved_shape(move, shape)
            for place in places(floor):
                seen = window(floor, shape, place)
                place_then = moved_place(move, floor, shape, place)
                self.assertEqual(window(floor_then, shape_then, place_then), moved_seen(move, shape, seen))

    def test_torn_windows_fit_the_moved_places(self):
        for move, floor, shape in itertools.product(MOVES, FLOORS, SHAPES):
            seen = (None, *window(floor, shape, (0, 0))[1:])
            found = [moved_place(move, floor, shape, place) for place in places_of(floor, shape, seen)]
            seen_then = moved_seen(move, shape, seen)
            self.assertEqual(places_of(moved_floor(move, floor), moved_shape(move, shape), seen_then), tuple(sorted(found)))

    def test_a_moved_floor_is_whole_where_the_floor_is(self):
        for move, floor, shape in itertools.product(MOVES, FLOORS, SHAPES):
            told = twins(moved_floor(move, floor), moved_shape(move, shape))
            self.assertEqual(told is None, twins(floor, shape) is None)


class BesideItself(unittest.TestCase):
    """(g), what is said of a floor beside itself"""

    def test_each_window_stands_just_over_its_own(self):
        for floor, shape, (down, right) in itertools.product(FLOORS, SHAPES, ((1, 1), (2, 1), (1, 3), (3, 2))):
            high, wide = len(floor), len(floor[0])
            great = beside(floor, down, right)
            for place in places(floor):
                seen = window(floor, shape, place)
                over = []
                for r, c in places_of(floor, shape, seen):
                    over += [(r + high * a, c + wide * b) for a in range(down) for b in range(right)]
                self.assertEqual(places_of(great, shape, seen), tuple(sorted(over)))

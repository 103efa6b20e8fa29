"""Point 3, the promise, as far as it is built, and point 2 for all that is built."""

import itertools
import unittest

from tests.helpers import FLOORS, SHAPES, places
from windowfloor.leastrows import least_row
from windowfloor.moves import moved_floor, moved_place, moved_seen, moved_shape
from windowfloor.otherrows import greatest_row, walked_row
from windowfloor.shifts import beside
from windowfloor.windows import places_of, twins, window
from windowfloor.words import is_full_row, row_twins

MOVES = [("shift", 1, 2), ("shift", -10 ** 6, 10 ** 6), ("cross",), ("flip",), ("signs", tuple(range(36))[::-1])]


class Whole(unittest.TestCase):
    """(a)"""

    def test_no_twins_or_the_first_two(self):
        for floor, shape in itertools.product(FLOORS, SHAPES):
            told = twins(floor, shape)
            alike = [places_of(floor, shape, window(floor, shape, place)) for place in places(floor)]
            if told is None:
                self.assertTrue(all(len(found) == 1 for found in alike))
            else:
                self.assertEqual(told, min(found[:2] for found in alike if len(found) > 1))


class FullRows(unittest.TestCase):
    """(b), its first half"""

    def test_rows_made_by_unlike_ways_are_full(self):
        for k, n in ((1, 1), (1, 40), (2, 1), (2, 9), (3, 5), (4, 4), (5, 3), (24, 2), (600, 1)):
            for row in (least_row(k, n), greatest_row(k, n), walked_row(k, n)):
                self.assertIs(is_full_row(row, k, n), True)
                self.assertIsNone(row_twins(row, n))


class Moved(unittest.TestCase):
    """(g), its first half"""

    def test_moved_windows_at_moved_places(self):
        for move, floor, shape in itertools.product(MOVES, FLOORS, SHAPES):
            floor_then, shape_then = moved_floor(move, floor), moved_shape(move, shape)
            for place in places(floor):
                seen = window(floor, shape, place)
                place_then = moved_place(move, floor, shape, place)
                self.assertEqual(window(floor_then, shape_then, place_then), moved_seen(move, shape, seen))

    def test_torn_windows_fit_the_moved_places(self):
        for move, floor, shape in itertools.product(MOVES, FLOORS, SHAPES):
            seen = (None, *window(floor, shape, (0, 0))[1:])
            found = [moved_place(move, floor, shape, place) for place in places_of(floor, shape, seen)]
            seen_then = moved_seen(move, shape, seen)
            self.assertEqual(places_of(moved_floor(move, floor), moved_shape(move, shape), seen_then), tuple(sorted(found)))

    def test_a_moved_floor_is_whole_where_the_floor_is(self):
        for move, floor, shape in itertools.product(MOVES, FLOORS, SHAPES):
            told = twins(moved_floor(move, floor), moved_shape(move, shape))
            self.assertEqual(told is None, twins(floor, shape) is None)


class BesideItself(unittest.TestCase):
    """(g), what is said of a floor beside itself"""

    def test_each_window_stands_just_over_its_own(self):
        for floor, shape, (down, right) in itertools.product(FLOORS, SHAPES, ((1, 1), (2, 1), (1, 3), (3, 2))):
            high, wide = len(floor), len(floor[0])
            great = beside(floor, down, right)
            for place in places(floor):
                seen = window(floor, shape, place)
                over = []
                for r, c in places_of(floor, shape, seen):
                    over += [(r + high * a, c + wide * b) for a in range(down) for b in range(right)]
                self.assertEqual(places_of(great, shape, seen), tuple(sorted(over)))

"""Point 3, the promise, as far as it is built, and point 2 for all that is built."""

import itertools
import unittest

from tests.helpers import FLOORS, SHAPES, places
from windowfloor.moves import moved_floor, moved_place, moved_seen, moved_shape
from windowfloor.windows import places_of, twins, window

MOVES = [("shift", 1, 2), ("shift", -10 ** 6, 10 ** 6), ("cross",), ("flip",), ("signs", tuple(range(36))[::-1])]


class Whole(unittest.TestCase):
    """(a)"""

    def test_no_twins_or_the_first_two(self):
        for floor, shape in itertools.product(FLOORS, SHAPES):
            told = twins(floor, shape)
            alike = [places_of(floor, shape, window(floor, shape, place)) for place in places(floor)]
            if told is None:
                self.assertTrue(all(len(found) == 1 for found in alike))
            else:
                self.assertEqual(told, min(found[:2] for found in alike if len(found) > 1))


class Moved(unittest.TestCase):
    """(g), its first half"""

    def test_moved_windows_at_moved_places(self):
        for move, floor, shape in itertools.product(MOVES, FLOORS, SHAPES):
            floor_then, shape_then = moved_floor(move, floor), moved_shape(move, shape)
            for place in places(floor):
                seen = window(floor, shape, place)
                place_then = moved_place(move, floor, shape, place)
                self.assertEqual(window(floor_then, shape_then, place_then), moved_seen(move, shape, seen))

    def test_torn_windows_fit_the_moved_places(self):
        for move, floor, shape in itertools.product(MOVES, FLOORS, SHAPES):
            seen = (None, *window(floor, shape, (0, 0))[1:])
            found = [moved_place(move, floor, shape, place) for place in places_of(floor, shape, seen)]
            seen_then = moved_seen(move, shape, seen)
            self.assertEqual(places_of(moved_floor(move, floor), moved_shape(move, shape), seen_then), tuple(sorted(found)))

    def test_a_moved_floor_is_whole_where_the_floor_is(self):
        for move, floor, shape in itertools.product(MOVES, FLOORS, SHAPES):
            told = twins(moved_floor(move, floor), moved_shape(move, shape))
            self.assertEqual(told is None, twins(floor, shape) is None)

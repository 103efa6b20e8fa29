"""Points 6 and 7: windows, places, twins, full floors."""

import itertools
import unittest

from tests.helpers import FLOORS, SHAPES, is_plain, places, seen_at
from windowfloor.shapes import box
from windowfloor.windows import is_full, places_of, twins, window

# Full for box(2, 2) and 2: each of the sixteen windows stands once.
FULL_BY_TWO = ((0, 0, 0, 1), (0, 0, 1, 0), (1, 0, 1, 1), (0, 1, 1, 1))
LONG_ROW = (tuple(t * t // 7 % 36 for t in range(600)),)


def naive_twins(floor, shape):
    for one, other in itertools.combinations(places(floor), 2):
        if seen_at(floor, shape, one) == seen_at(floor, shape, other):
            return (one, other)
    return None


def naive_full(floor, shape, k):
    seen = [seen_at(floor, shape, place) for place in places(floor)]
    wanted = list(itertools.product(range(k), repeat=len(shape)))
    return sorted(seen) == wanted


class Window(unittest.TestCase):
    def test_by_hand(self):
        floor = ((0, 1, 2), (3, 4, 5))
        self.assertEqual(window(floor, ((0, 0),), (1, 2)), (5,))
        self.assertEqual(window(floor, box(2, 2), (0, 0)), (0, 1, 3, 4))
        self.assertEqual(window(floor, box(2, 2), (1, 2)), (5, 3, 2, 0))
        self.assertEqual(window(floor, ((0, 1), (1, 0)), (0, 2)), (0, 5))

    def test_cells_that_go_round_more_than_once(self):
        floor = ((0, 1, 2), (3, 4, 5))
        self.assertEqual(window(floor, ((0, 0), (0, 3), (2, 0), (39, 39)), (0, 0)), (0, 0, 0, 3))
        self.assertEqual(window(floor, ((0, 39), (39, 0)), (1, 1)), (4, 1))
        self.assertEqual(window(((7,),), SHAPES[-1], (0, 0)), (7,) * 16)

    def test_as_the_definition(self):
        for floor, shape in itertools.product(FLOORS, SHAPES):
            for place in places(floor):
                told = window(floor, shape, place)
                self.assertEqual(told, seen_at(floor, shape, place))
                self.assertTrue(is_plain(told))

    def test_long_floors(self):
        self.assertEqual(window(LONG_ROW, ((0, 0), (0, 39)), (0, 590)), (LONG_ROW[0][590], LONG_ROW[0][29]))
        column = tuple((sign,) for sign in LONG_ROW[0])
        self.assertEqual(window(column, ((0, 0), (39, 0)), (590, 0)), (LONG_ROW[0][590], LONG_ROW[0][29]))


class PlacesOf(unittest.TestCase):
    def test_by_hand(self):
        floor = ((0, 1, 0), (1, 1, 0))
        self.assertEqual(places_of(floor, ((0, 0),), (0,)), ((0, 0), (0, 2), (1, 2)))
        self.assertEqual(places_of(floor, ((0, 0), (0, 1)), (1, None)), ((0, 1), (1, 0), (1, 1)))
        self.assertEqual(places_of(floor, ((0, 0), (0, 1)), (1, 1)), ((1, 0),))
        self.assertEqual(places_of(floor, ((0, 0), (0, 1)), (2, None)), ())

    def test_all_torn_fits_everywhere(self):
        for floor, shape in itertools.product(FLOORS, SHAPES):
            self.assertEqual(places_of(floor, shape, (None,) * len(shape)), tuple(places(floor)))

    def test_each_window_with_cells_torn(self):
        for floor, shape in itertools.product(FLOORS, SHAPES):
            for torn in range(len(shape) + 1):
                place = places(floor)[-1]
                seen = tuple(None if at == torn else sign for at, sign in enumerate(seen_at(floor, shape, place)))
                wanted = []
                for spot in places(floor):
                    signs = seen_at(floor, shape, spot)
                    if all(signs[at] == seen[at] for at in range(len(shape)) if seen[at] is not None):
                        wanted.append(spot)
                self.assertEqual(places_of(floor, shape, seen), tuple(wanted))
                self.assertIn(place, wanted)

    def test_a_sign_that_stands_nowhere(self):
        self.assertEqual(places_of(((0, 1), (2, 3)), ((0, 0), (1, 1)), (0, 35)), ())
        self.assertEqual(places_of(((0, 1), (2, 3)), ((0, 0), (1, 1)), (None, 35)), ())

    def test_nought_is_not_torn(self):
        self.assertEqual(places_of(((0, 1),), ((0, 0),), (0,)), ((0, 0),))

    def test_long_floors(self):
        self.assertEqual(places_of(((3,) * 600,), ((0, 0),), (3,)), tuple((0, c) for c in range(600)))
        self.assertEqual(places_of(((3,),) * 600, ((0, 0),), (3,)), tuple((r, 0) for r in range(600)))


class Twins(unittest.TestCase):
    def test_by_hand(self):
        self.assertIsNone(twins(((0, 1), (2, 3)), ((0, 0),)))
        self.assertEqual(twins(((0, 1, 0, 1),), ((0, 0),)), ((0, 0), (0, 2)))
        self.assertEqual(twins(((5, 1, 2), (1, 3, 1)), ((0, 0),)), ((0, 1), (1, 0)))

    def test_the_least_one_goes_before_the_least_other(self):
        self.assertEqual(twins(((0, 1, 1, 0),), ((0, 0),)), ((0, 0), (0, 3)))
        self.assertEqual(twins(((2, 0, 1, 1, 0, 0),), ((0, 0),)), ((0, 1), (0, 4)))

    def test_as_the_definition(self):
        for floor, shape in itertools.product(FLOORS, SHAPES):
            told = twins(floor, shape)
            self.assertEqual(told, naive_twins(floor, shape))
            self.assertTrue(is_plain(told))

    def test_one_place_has_no_twins(self):
        for shape in SHAPES:
            self.assertIsNone(twins(((4,),), shape))

    def test_600_places(self):
        self.assertEqual(twins(((0,) * 600,), SHAPES[-1]), ((0, 0), (0, 1)))
        self.assertEqual(twins(((0,),) * 600, SHAPES[-1]), ((0, 0), (1, 0)))
        rows = tuple(tuple(r for c in range(1)) for r in range(36))
        self.assertIsNone(twins(rows, ((0, 0),)))
        row = tuple(number for low in range(24) for number in (low, *[s for h in range(low + 1, 24) for s in (low, h)]))
        self.assertIsNone(twins((row,), ((0, 0), (0, 1))))
        self.assertEqual(len(row), 24 * 24)


class IsFull(unittest.TestCase):
    def test_full_floors(self):
        self.assertIs(is_full(FULL_BY_TWO, box(2, 2), 2), True)
        self.assertIs(is_full(((0, 0, 1, 1),), box(1, 2), 2), True)
        self.assertIs(is_full(((0,), (0,), (1,), (1,)), box(2, 1), 2), True)
        self.assertIs(is_full(((0, 1), (2, 3)), box(1, 1), 4), True)
        self.assertIs(is_full((tuple(range(36)),), box(1, 1), 36), True)

    def test_not_full(self):
        self.assertIs(is_full(FULL_BY_TWO, box(2, 2), 3), False)
        self.assertIs(is_full(FULL_BY_TWO, box(1, 2), 2), False)
        self.assertIs(is_full(FULL_BY_TWO[::-1] + FULL_BY_TWO, box(2, 2), 2), False)
        self.assertIs(is_full(((0, 1, 0, 1),), box(1, 2), 2), False)
        self.assertIs(is_full(((0, 1), (2, 4)), box(1, 1), 4), False)
        self.assertIs(is_full(((0, 0, 2, 2),), box(1, 2), 2), False)
        self.assertIs(is_full(((0, 0, 1),), box(1, 2), 2), False)

    def test_k_of_one(self):
        for shape in SHAPES:
            self.assertIs(is_full(((0,),), shape, 1), True)
            self.assertIs(is_full(((1,),), shape, 1), False)
            self.assertIs(is_full(((0, 0),), shape, 1), False)

    def test_k_above_36(self):
        for k in (37, 38, 600, 10 ** 6):
            for shape in SHAPES:
                self.assertIs(is_full((tuple(range(36)),), shape, k), False)
                self.assertIs(is_full(((0,),), shape, k), False)
        # Even of more signs than a floor has.
        self.assertIs(is_full((tuple(range(37)),), box(1, 1), 37), False)

    def test_cells_that_are_the_same(self):
        self.assertIs(is_full(((0, 1),), ((0, 0), (0, 2)), 2), False)
        self.assertIs(is_full(((0, 1, 0, 1),), ((0, 0), (0, 4)), 2), False)

    def test_as_the_definition(self):
        shapes = [shape for shape in SHAPES if len(shape) <= 4]
        for floor, shape, k in itertools.product(FLOORS + [FULL_BY_TWO], shapes, (1, 2, 3, 4, 5)):
            self.assertIs(is_full(floor, shape, k), naive_full(floor, shape, k))
        for signs in itertools.product(range(2), repeat=4):
            for shape in shapes:
                self.assertIs(is_full((signs,), shape, 2), naive_full((signs,), shape, 2))

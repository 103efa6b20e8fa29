"""Point 9: floors beside themselves, and what shifts do."""

import itertools
import unittest

from tests.helpers import FLOORS, is_plain, places, sign_at
from windowfloor.errors import FloorError, TooGreat
from windowfloor.shifts import beside, kept_by, least_of, led

SMALL_FLOORS = FLOORS + [
    ((0, 1, 0, 1, 0, 1),), ((3,), (3,), (3,)), ((1,), (2,), (1,), (2,)), ((0, 1), (1, 0)), ((1, 0, 0), (0, 1, 0), (0, 0, 1)),
    ((2, 1, 0), (0, 2, 1)), ((1, 0, 1), (1, 0, 0), (1, 0, 1), (0, 0, 1)),
]
HUNDRED = tuple(tuple((r * 3 + c) % 5 for c in range(10)) for r in range(10))


def naive_shifted(floor, i, j):
    return tuple(tuple(sign_at(floor, r + i, c + j) for c in range(len(floor[0]))) for r in range(len(floor)))


class Beside(unittest.TestCase):
    def test_by_hand(self):
        floor = ((0, 1, 2), (3, 4, 5))
        self.assertEqual(beside(floor, 1, 1), floor)
        self.assertEqual(beside(floor, 2, 1), floor + floor)
        self.assertEqual(beside(floor, 1, 2), ((0, 1, 2, 0, 1, 2), (3, 4, 5, 3, 4, 5)))
        self.assertEqual(beside(((7, 8),), 2, 2), ((7, 8, 7, 8), (7, 8, 7, 8)))

    def test_each_sign_stands_over_its_own(self):
        for floor, down, right in itertools.product(FLOORS, (1, 2, 3), (1, 2, 4)):
            told = beside(floor, down, right)
            self.assertEqual((len(told), len(told[0])), (len(floor) * down, len(floor[0]) * right))
            self.assertTrue(all(told[r][c] == sign_at(floor, r, c) for r, c in places(told)))
            self.assertTrue(is_plain(told))

    def test_just_600_places(self):
        self.assertEqual(beside(((1,),), 600, 1), ((1,),) * 600)
        self.assertEqual(beside(((1,),), 1, 600), ((1,) * 600,))
        self.assertEqual(beside(((1, 2), (3, 4)), 10, 15), ((1, 2) * 15, (3, 4) * 15) * 10)
        self.assertEqual(beside(((0,) * 600,), 1, 1), ((0,) * 600,))

    def test_more_are_refused(self):
        floor = ((1, 2), (3, 4))
        far = 10 ** 6
        for down, right in ((1, 151), (151, 1), (12, 13), (far, 1), (1, far), (far, far), (600, 600)):
            with self.assertRaises(FloorError) as caught:
                beside(floor, down, right)
            self.assertIs(type(caught.exception), TooGreat)
        for down, right in ((601, 1), (1, 601), (25, 25)):
            self.assertRaises(TooGreat, beside, ((0,),), down, right)
        self.assertRaises(TooGreat, beside, ((0,) * 600,), 2, 1)
        self.assertRaises(TooGreat, beside, ((0,),) * 600, 1, 2)


class KeptBy(unittest.TestCase):
    def test_by_hand(self):
        self.assertEqual(kept_by(((4,),)), ((0, 0),))
        self.assertEqual(kept_by(((0, 1, 0, 1),)), ((0, 0), (0, 2)))
        self.assertEqual(kept_by(((5,), (5,), (5,))), ((0, 0), (1, 0), (2, 0)))
        self.assertEqual(kept_by(((0, 1), (1, 0))), ((0, 0), (1, 1)))
        self.assertEqual(kept_by(((0, 1), (2, 3))), ((0, 0),))

    def test_as_the_definition(self):
        for floor in SMALL_FLOORS + [HUNDRED]:
            wanted = [by for by in places(floor) if naive_shifted(floor, *by) == floor]
            self.assertEqual(kept_by(floor), tuple(wanted))
            self.assertTrue(is_plain(kept_by(floor)))


class LeastOf(unittest.TestCase):
    def test_by_hand(self):
        self.assertEqual(least_of(((4,),)), (((4,),), (0, 0)))
        self.assertEqual(least_of(((1, 0, 1, 0),)), (((0, 1, 0, 1),), (0, 1)))
        self.assertEqual(least_of(((2,), (0,), (1,))), (((0,), (1,), (2,)), (1, 0)))
        self.assertEqual(least_of(((2, 1), (1, 0))), (((0, 1), (1, 2)), (1, 1)))

    def test_as_the_definition(self):
        for floor in SMALL_FLOORS + [HUNDRED]:
            wanted = min(naive_shifted(floor, *by) for by in places(floor))
            by = min(by for by in places(floor) if naive_shifted(floor, *by) == wanted)
            self.assertEqual(least_of(floor), (wanted, by))
            self.assertTrue(is_plain(least_of(floor)))

    def test_all_shifted_have_the_same(self):
        for floor in SMALL_FLOORS:
            for by in places(floor):
                self.assertEqual(least_of(naive_shifted(floor, *by))[0], least_of(floor)[0])


class Led(unittest.TestCase):
    def test_by_hand(self):
        self.assertEqual(led(((4,),), ((4,),)), (0, 0))
        self.assertIsNone(led(((4,),), ((5,),)))
        self.assertEqual(led(((0, 1, 2),), ((2, 0, 1),)), (0, 2))
        self.assertEqual(led(((0, 1, 0, 1),), ((1, 0, 1, 0),)), (0, 1))
        self.assertEqual(led(((0,), (1,), (2,)), ((1,), (2,), (0,))), (1, 0))
        self.assertIsNone(led(((0, 1, 2),), ((2, 1, 0),)))

    def test_of_other_sizes(self):
        self.assertIsNone(led(((0, 0),), ((0,), (0,))))
        self.assertIsNone(led(((0, 0),), ((0, 0, 0),)))
        self.assertIsNone(led(((0, 0), (0, 0)), ((0, 0),)))

    def test_as_the_definition(self):
        for one, other in itertools.product(SMALL_FLOORS, repeat=2):
            wanted = [by for by in places(one) if naive_shifted(one, *by) == other]
            self.assertEqual(led(one, other), min(wanted, default=None))
        for floor in SMALL_FLOORS:
            for i, j in places(floor):
                told = led(floor, naive_shifted(floor, i, j))
                self.assertLessEqual(told, (i, j))
                self.assertEqual(naive_shifted(floor, *told), naive_shifted(floor, i, j))

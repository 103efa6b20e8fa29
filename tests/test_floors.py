"""Point 4: floors, places, sizes."""

import unittest

from tests.helpers import FLOORS, STRANGE_THINGS, nested
from windowfloor.floors import is_floor, is_place, size


class IsFloor(unittest.TestCase):
    def test_floors(self):
        for floor in FLOORS:
            self.assertIs(is_floor(floor), True, floor)

    def test_each_sign(self):
        for sign in range(36):
            self.assertIs(is_floor(((sign,),)), True)
        self.assertIs(is_floor((tuple(range(36)),)), True)

    def test_signs_out_of_bounds(self):
        for sign in (-1, 36, 37, 600, 10 ** 6, -10 ** 6):
            self.assertIs(is_floor(((sign,),)), False)
            self.assertIs(is_floor(((0, 35), (1, sign))), False)

    def test_one_sign_above_35_among_many(self):
        rows = [[0] * 30 for r in range(20)]
        self.assertIs(is_floor(tuple(tuple(row) for row in rows)), True)
        rows[19][29] = 36
        self.assertIs(is_floor(tuple(tuple(row) for row in rows)), False)

    def test_600_places_and_no_more(self):
        for high, wide in ((1, 600), (600, 1), (20, 30), (24, 25), (2, 300)):
            self.assertIs(is_floor(((35,) * wide,) * high), True)
        for high, wide in ((1, 601), (601, 1), (25, 25), (2, 301), (301, 2), (1000, 1000)):
            self.assertIs(is_floor(((35,) * wide,) * high), False)

    def test_rows_of_unlike_length(self):
        for thing in (((0, 0), (0,)), ((0,), (0, 0)), ((0,), ()), ((), (0,)), ((0, 0), (0, 0), (0, 0, 0))):
            self.assertIs(is_floor(thing), False)

    def test_nothing(self):
        for thing in ((), ((),), ((), ()), ((),) * 700):
            self.assertIs(is_floor(thing), False)

    def test_lists_and_truths(self):
        for thing in ([(0,)], ([0],), ((0, 1), [0, 1]), ((True,),), ((0, False),), ((0, 1), (1, True))):
            self.assertIs(is_floor(thing), False)

    def test_strange_things(self):
        for thing in STRANGE_THINGS:
            self.assertIs(is_floor(thing), False, repr(thing))
            self.assertIs(is_floor((thing,)), False, repr(thing))
            self.assertIs(is_floor(((0, 0), thing)), False, repr(thing))

    def test_strange_signs(self):
        for thing in STRANGE_THINGS:
            is_sign = type(thing) is int and 0 <= thing <= 35
            self.assertIs(is_floor(((0, thing),)), is_sign, repr(thing))


class IsPlace(unittest.TestCase):
    def test_all_places_and_those_beside(self):
        for floor in FLOORS:
            high, wide = len(floor), len(floor[0])
            for r in range(-2, high + 2):
                for c in range(-2, wide + 2):
                    self.assertIs(is_place(floor, (r, c)), 0 <= r < high and 0 <= c < wide)

    def test_long_floors(self):
        self.assertIs(is_place(((0,) * 600,), (0, 599)), True)
        self.assertIs(is_place(((0,) * 600,), (599, 0)), False)
        self.assertIs(is_place(((0,),) * 600, (599, 0)), True)
        self.assertIs(is_place(((0,),) * 600, (0, 599)), False)

    def test_strange_things(self):
        floor = ((0, 1), (2, 3))
        for thing in STRANGE_THINGS:
            self.assertIs(is_place(floor, thing), False, repr(thing))
            is_row = type(thing) is int and 0 <= thing <= 1
            self.assertIs(is_place(floor, (thing, 0)), is_row, repr(thing))
            self.assertIs(is_place(floor, (0, thing)), is_row, repr(thing))

    def test_too_few_and_too_many_parts(self):
        floor = ((0, 1), (2, 3))
        for thing in ((), (0,), (0, 0, 0), ((0, 0),), ((0, 0), (0, 0)), [0, 0], nested(30, (0, 0))):
            self.assertIs(is_place(floor, thing), False)


class Size(unittest.TestCase):
    def test_sizes(self):
        self.assertEqual(size(((0,),)), (1, 1))
        self.assertEqual(size(((0, 1, 2),)), (1, 3))
        self.assertEqual(size(((0,), (1,))), (2, 1))
        self.assertEqual(size(((0,) * 30,) * 20), (20, 30))
        self.assertEqual(size(((0,),) * 600), (600, 1))

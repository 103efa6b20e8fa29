"""Point 5: shapes and boxes."""

import unittest

from tests.helpers import SHAPES, STRANGE_THINGS, nested
from windowfloor.shapes import box, is_shape


class IsShape(unittest.TestCase):
    def test_shapes(self):
        for shape in SHAPES:
            self.assertIs(is_shape(shape), True, shape)

    def test_one_to_sixteen_cells(self):
        for many in range(1, 20):
            self.assertIs(is_shape(tuple((0, j) for j in range(many))), many <= 16)
            self.assertIs(is_shape(tuple((i, 0) for i in range(many))), many <= 16)

    def test_cells_to_39(self):
        for far, told in ((38, True), (39, True), (40, False), (41, False), (10 ** 6, False)):
            self.assertIs(is_shape(((0, 0), (0, far))), told)
            self.assertIs(is_shape(((0, 0), (far, 0))), told)
            self.assertIs(is_shape(((0, 0), (far, far))), told)

    def test_below_nought(self):
        for thing in (((-1, 0), (0, 0)), ((0, -1), (0, 0)), ((0, 0), (1, -1)), ((-1, -1),)):
            self.assertIs(is_shape(thing), False)

    def test_unlike_and_rising(self):
        for thing in (((0, 0), (0, 0)), ((0, 1), (0, 0)), ((1, 0), (0, 0)), ((0, 0), (1, 1), (1, 0)), ((0, 0), (0, 1), (0, 1))):
            self.assertIs(is_shape(thing), False)

    def test_least_row_and_column_are_nought(self):
        for thing in (((1, 0),), ((0, 1),), ((1, 1),), ((1, 0), (2, 0)), ((0, 1), (1, 1)), ((0, 2), (3, 1))):
            self.assertIs(is_shape(thing), False)
        for thing in (((0, 1), (1, 0)), ((0, 39), (39, 0)), ((0, 5), (1, 3), (2, 0))):
            self.assertIs(is_shape(thing), True)

    def test_strange_things(self):
        for thing in STRANGE_THINGS:
            self.assertIs(is_shape(thing), False, repr(thing))
            self.assertIs(is_shape((thing,)), False, repr(thing))
            self.assertIs(is_shape(((0, 0), thing)), False, repr(thing))
            is_number = type(thing) is int and 1 <= thing <= 39
            self.assertIs(is_shape(((0, 0), (0, thing))), is_number, repr(thing))
            self.assertIs(is_shape(((0, 0), (thing, 0))), is_number, repr(thing))

    def test_kinds_and_parts(self):
        for thing in (
            [(0, 0)], ([0, 0],), ((0, 0), [0, 1]), ((False, 0),), ((0, 0), (0, True)), ((0,),), ((0, 0, 0),), ((0, 0), ()),
            (), (0, 0), nested(28, (0, 0)), ((0, None),), (("0", "0"),),
        ):
            self.assertIs(is_shape(thing), False, thing)


class Box(unittest.TestCase):
    def test_boxes(self):
        self.assertEqual(box(1, 1), ((0, 0),))
        self.assertEqual(box(1, 3), ((0, 0), (0, 1), (0, 2)))
        self.assertEqual(box(3, 1), ((0, 0), (1, 0), (2, 0)))
        self.assertEqual(box(2, 2), ((0, 0), (0, 1), (1, 0), (1, 1)))

    def test_all_boxes_are_shapes(self):
        for a in range(1, 17):
            for b in range(1, 16 // a + 1):
                told = box(a, b)
                self.assertIs(is_shape(told), True)
                self.assertEqual(len(told), a * b)
                self.assertEqual(told[-1], (a - 1, b - 1))

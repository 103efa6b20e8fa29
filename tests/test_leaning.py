"""Points 18 and 19: shapes that lean, and laid floors read by parts."""

import itertools
import random
import unittest

from tests.helpers import SHAPES, is_plain, places, seen_at, some_laid, some_shape
from windowfloor.laying import evened, full_floor, laid
from windowfloor.leaning import leans, read_laid
from windowfloor.leastrows import least_row
from windowfloor.shapes import box, is_shape

GAPS = ((0, 0), (0, 2), (1, 0), (1, 2), (3, 1), (4, 1))
STAIR = ((0, 2), (1, 1), (1, 2), (2, 0), (2, 1), (3, 0))


def naive_leans(shape, a, b):
    tops = {}
    for i, j in sorted(shape, reverse=True):
        if all((i + step, j) in shape for step in range(a)):
            tops[j] = i
    for j in sorted(tops):
        if all(j + step in tops for step in range(b)):
            return (j, tuple(tops[j + step] for step in range(b)))
    return None


class Leans(unittest.TestCase):
    def test_by_hand(self):
        self.assertEqual(leans(((0, 0),), 1, 1), (0, (0,)))
        self.assertEqual(leans(box(3, 4), 3, 4), (0, (0, 0, 0, 0)))
        self.assertEqual(leans(STAIR, 2, 3), (0, (2, 1, 0)))
        self.assertEqual(leans(STAIR, 2, 2), (0, (2, 1)))
        self.assertEqual(leans(((0, 0), (0, 1), (1, 1), (1, 2), (2, 2)), 2, 2), (1, (0, 1)))
        self.assertIsNone(leans(((0, 0), (2, 0)), 2, 1))
        self.assertIsNone(leans(((0, 1), (1, 0)), 2, 1))
        self.assertEqual(leans(((0, 1), (1, 0)), 1, 2), (0, (1, 0)))

    def test_at_several_columns(self):
        # The least column, and in each the least height.
        self.assertEqual(leans(box(4, 4), 2, 2), (0, (0, 0)))
        self.assertEqual(leans(((0, 0), (0, 2), (1, 2), (2, 2), (2, 4), (3, 4)), 2, 1), (2, (0,)))

    def test_with_gaps(self):
        self.assertEqual(leans(GAPS, 2, 3), (0, (0, 3, 0)))
        self.assertIsNone(leans(GAPS, 2, 4))
        self.assertIsNone(leans(GAPS, 3, 1))
        # A column without cells stands between.
        self.assertIsNone(leans(((0, 0), (0, 2)), 1, 2))
        self.assertEqual(leans(((0, 0), (0, 2), (0, 3)), 1, 2), (2, (0, 0)))
        # Cells with a gap, and neighbours further down.
        self.assertEqual(leans(((0, 0), (2, 0), (3, 0), (5, 0)), 2, 1), (0, (2,)))

    def test_greater_than_the_shape(self):
        for shape in SHAPES:
            self.assertIsNone(leans(shape, 17, 1))
            self.assertIsNone(leans(shape, 1, 17))
            self.assertIsNone(leans(shape, 40, 40))
        self.assertIsNone(leans(box(2, 2), 3, 1))
        self.assertIsNone(leans(box(2, 2), 1, 3))
        self.assertEqual(leans(box(16, 1), 16, 1), (0, (0,)))
        self.assertEqual(leans(box(1, 16), 1, 16), (0, (0,) * 16))
        self.assertEqual(leans(((0, 39), (39, 0)), 1, 1), (0, (39,)))

    def test_as_the_definition(self):
        chance = random.Random(18)
        shapes = SHAPES + [GAPS, STAIR] + [some_shape(chance, 4, 4, 16) for count in range(200)]
        for shape in shapes:
            self.assertTrue(is_shape(shape))
            for a, b in itertools.product((1, 2, 3, 4, 5), repeat=2):
                told = leans(shape, a, b)
                self.assertEqual(told, naive_leans(shape, a, b), (shape, a, b))
                self.assertTrue(is_plain(told))


class ReadLaid(unittest.TestCase):
    def check(self, base, steps, a, b, shape):
        floor = laid(base, steps)
        for place in places(floor):
            told = read_laid(base, steps, a, b, shape, seen_at(floor, shape, place))
            self.assertEqual(told, place, (base, steps, a, b, shape))
            self.assertTrue(is_plain(told))

    def check_one_cell_changed(self, base, steps, a, b, shape, most):
        floor = laid(base, steps)
        place_of = {seen_at(floor, shape, place): place for place in places(floor)}
        for seen in list(place_of):
            for at, sign in itertools.product(range(len(shape)), range(most)):
                changed = seen[:at] + (sign,) + seen[at + 1:]
                self.assertEqual(read_laid(base, steps, a, b, shape, changed), place_of.get(changed), changed)

    def test_full_floors(self):
        for k, a, b in (
            (1, 1, 1), (2, 1, 1), (2, 3, 1), (2, 2, 3), (3, 2, 2), (2, 1, 9), (3, 1, 2), (2, 3, 3), (2, 9, 1), (23, 1, 2),
        ):
            base = least_row(k, a)
            steps = (0,) if b == 1 else least_row(k ** a, b - 1)
            self.assertEqual(laid(base, steps), full_floor(k, a, b))
            self.check(base, steps, a, b, box(a, b))

    def test_by_hand(self):
        base, steps = (0, 0, 1, 2), (3, 3, 2)
        # The floor is 021 / 002 / 100 / 210.
        self.assertEqual(read_laid(base, steps, 2, 2, box(2, 2), (0, 0, 1, 0)), (1, 0))
        self.assertEqual(read_laid(base, steps, 2, 3, box(2, 3), (2, 1, 0, 0, 2, 1)), (3, 0))
        self.assertEqual(read_laid(base, steps, 2, 3, STAIR, (1, 0, 2, 1, 0, 2)), (0, 0))
        self.assertIsNone(read_laid(base, steps, 2, 2, box(2, 2), (1, 1, 1, 1)))
        self.assertIsNone(read_laid(base, steps, 2, 3, box(2, 3), (0, 0, 0, 0, 0, 0)))
        self.assertEqual(read_laid((7,), (0,), 1, 1, box(1, 1), (7,)), (0, 0))
        self.assertIsNone(read_laid((7,), (0,), 1, 1, box(1, 1), (8,)))

    def test_each_that_could_be_seen(self):
        for base, steps, a, b, shape in (
            ((0, 1, 2), (1, 2), 1, 2, ((0, 0), (1, 1), (2, 1))),
            ((0, 0, 1, 1), (0, 3, 1), 2, 2, box(2, 2)),
            ((0, 0, 1, 1), (0, 3, 1), 2, 2, ((0, 0), (1, 0), (1, 1), (2, 1), (3, 3))),
            ((0, 0, 1), (0,), 2, 1, ((0, 0), (1, 0))),
            ((0, 0, 1), (0,), 2, 1, ((0, 0), (1, 1), (2, 1), (2, 2))),
        ):
            floor = laid(base, steps)
            place_of = {seen_at(floor, shape, place): place for place in places(floor)}
            self.assertEqual(len(place_of), len(places(floor)))
            for seen in itertools.product(range(3), repeat=len(shape)):
                self.assertEqual(read_laid(base, steps, a, b, shape, seen), place_of.get(seen), seen)

    def test_any_rows_and_shapes(self):
        for base, steps, a, b, shape in some_laid(random.Random(19), 150):
            self.check(base, steps, a, b, shape)
            self.check_one_cell_changed(base, steps, a, b, shape, 4)

    def test_leaning_at_a_later_column(self):
        shape = ((0, 0), (0, 2), (1, 2), (1, 3), (2, 3), (5, 7))
        self.assertEqual(leans(shape, 2, 2), (2, (0, 1)))
        base, steps = (0, 0, 1, 1, 2, 2), (0, 2, 5, 1, 4)
        self.check(base, steps, 2, 2, shape)
        self.check_one_cell_changed(base, steps, 2, 2, shape, 4)

    def test_a_cell_that_does_not_lean(self):
        base, steps = (0, 0, 1, 1), (0, 3, 1)
        shape = ((0, 0), (0, 1), (1, 0), (1, 1), (3, 3))
        floor = laid(base, steps)
        for place in places(floor):
            seen = seen_at(floor, shape, place)
            self.assertEqual(read_laid(base, steps, 2, 2, shape, seen), place)
            self.assertIsNone(read_laid(base, steps, 2, 2, shape, seen[:-1] + (1 - seen[-1],)))

    def test_signs_that_the_floor_does_not_have(self):
        base, steps = (0, 0, 1, 1), (0, 3, 1)
        for at in range(4):
            seen = seen_at(laid(base, steps), box(2, 2), (1, 1))
            self.assertIsNone(read_laid(base, steps, 2, 2, box(2, 2), seen[:at] + (35,) + seen[at + 1:]))

    def test_a_shape_greater_than_the_floor(self):
        for shape in (box(4, 4), box(1, 16), box(16, 1)):
            self.check((0, 1), (0,), 1, 1, shape)
        self.check((0, 1), (0, 1, 1), 1, 3, box(4, 4))

    def test_rows_whose_floor_would_be_too_great(self):
        base, steps = least_row(2, 5), least_row(32, 1)
        steps = evened(steps[:31], 32)
        seen = tuple(base[(7 + i + sum(steps[:9 + j])) % 32] for i, j in box(5, 2))
        self.assertEqual(read_laid(base, steps, 5, 2, box(5, 2), seen), (7, 9))

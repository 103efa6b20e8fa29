"""Point 31: torn floors filled, or trees that show that there is none."""

import random
import unittest

from tests.helpers import (
    TORN_CASES, all_filled, holes_of, is_naively_right, is_naively_whole, is_plain, refusal, some_shape, some_torn,
)
from windowfloor.errors import TooGreat
from windowfloor.filling import filled
from windowfloor.floors import is_floor
from windowfloor.laying import full_floor
from windowfloor.shapes import box


class Filled(unittest.TestCase):
    def check(self, torn, k, shape):
        told = filled(torn, k, shape)
        self.assertTrue(is_plain(told))
        self.assertEqual(len(told), 2)
        self.assertEqual(filled(torn, k, shape), told)
        wholes = [floor for floor in all_filled(torn, k) if is_naively_whole(floor, shape)]
        if wholes:
            self.assertEqual(told[0], "floor", (torn, k, shape))
            self.assertIn(told[1], wholes)
            self.assertTrue(is_floor(told[1]))
        else:
            self.assertEqual(told[0], "tree", (torn, k, shape))
            self.assertTrue(is_naively_right(torn, k, shape, told[1]), (torn, k, shape, told))
        return told[0]

    def test_by_hand(self):
        self.assertEqual(filled(((0, None),), 2, box(1, 1)), ("floor", ((0, 1),)))
        self.assertEqual(filled(((None, 0), (1, 2)), 4, box(1, 1)), ("floor", ((3, 0), (1, 2))))
        self.assertEqual(filled(((0, 0, None, None),), 2, box(1, 2)), ("floor", ((0, 0, 1, 1),)))
        self.assertEqual(filled(((0, 0),), 2, box(1, 1)), ("tree", ("twins", (0, 0), (0, 1))))
        sort, tree = filled(((0, None, 1),), 2, box(1, 1))
        self.assertEqual(sort, "tree")
        self.assertEqual(tree, ("cell", (0, 1), (("twins", (0, 0), (0, 1)), ("twins", (0, 1), (0, 2)))))

    def test_small_ones(self):
        sorts = [self.check(*case) for case in TORN_CASES]
        self.assertGreater(min(sorts.count("floor"), sorts.count("tree")), 5)

    def test_any(self):
        chance = random.Random(31)
        sorts = []
        for count in range(250):
            k = chance.choice((2, 2, 2, 3, 3, 4, 5, 6))
            torn = some_torn(chance, 4, k, {2: 8, 3: 5, 4: 4, 5: 3, 6: 3}[k])
            sorts.append(self.check(torn, k, some_shape(chance, 3, 3, 4)))
        self.assertGreater(min(sorts.count("floor"), sorts.count("tree")), 40)

    def test_without_a_none(self):
        floor = full_floor(2, 1, 3)
        self.assertEqual(filled(floor, 2, box(1, 3)), ("floor", floor))
        self.assertEqual(filled(((3,),), 36, box(1, 1)), ("floor", ((3,),)))
        sort, tree = filled(floor, 2, box(1, 2))
        self.assertEqual((sort, tree[0]), ("tree", "twins"))
        self.assertTrue(is_naively_right(floor, 2, box(1, 2), tree))

    def test_of_nones_alone(self):
        self.assertEqual(self.check(((None,) * 8,), 2, box(1, 3)), "floor")
        self.assertEqual(self.check(((None,) * 8,), 2, box(1, 2)), "tree")
        self.assertEqual(self.check(((None,) * 4, (None,) * 4), 2, box(2, 2)), "floor")
        self.assertEqual(self.check(((None, None), (None, None)), 4, box(1, 1)), "floor")
        self.assertEqual(self.check(((None, None), (None, None)), 3, box(1, 1)), "tree")

    def test_of_one_place(self):
        for k in (2, 17, 36):
            for shape in (box(1, 1), box(4, 4), ((0, 39), (39, 0))):
                self.assertEqual(self.check(((None,),), k, shape), "floor")
                self.assertEqual(self.check(((1,),), k, shape), "floor")

    def test_of_40_places(self):
        chance = random.Random(40)
        sorts = []
        for high, wide, shape in ((5, 8, box(2, 3)), (1, 40, box(1, 6)), (40, 1, box(7, 1)), (4, 10, box(4, 4)), (8, 5, box(1, 1))):
            for count in range(4):
                floor = [[chance.randrange(2) for c in range(wide)] for r in range(high)]
                for r, c in chance.sample([(r, c) for r in range(high) for c in range(wide)], 6):
                    floor[r][c] = None
                sorts.append(self.check(tuple(map(tuple, floor)), 2, shape))
        self.assertGreater(min(sorts.count("floor"), sorts.count("tree")), 2)

    def test_told_signs_by_which_there_are_twins_from_the_first(self):
        torn = ((0, 0, 0, None, None, None, 1),)
        sort, tree = filled(torn, 2, box(1, 2))
        self.assertEqual(sort, "tree")
        self.assertTrue(is_naively_right(torn, 2, box(1, 2), tree))
        torn = ((0, 0, 0) + (None,) * 37,)
        self.assertIs(refusal(filled, torn, 2, box(1, 2)), TooGreat)

    def test_how_many_ways(self):
        # Of each k the most None for which there are at most 300 ways, and one more.
        for k, most in ((2, 8), (3, 5), (4, 4), (5, 3), (6, 3), (7, 2), (17, 2), (18, 1), (36, 1)):
            self.assertLessEqual(k ** most, 300)
            for wide in (most + 2, 40):
                torn = ((0,) * (wide - most) + (None,) * most,)
                self.assertIsNone(refusal(filled, torn, k, box(1, 3)), (k, most))
                torn = ((0,) * (wide - most - 1) + (None,) * (most + 1),)
                self.assertIs(refusal(filled, torn, k, box(1, 3)), TooGreat, (k, most + 1))
        self.assertIs(refusal(filled, ((None,) * 40,), 36, box(1, 1)), TooGreat)

    def test_just_300_ways(self):
        # No k to 36 comes to just 300: so this k is beyond the bounds, and only the refusal is looked at.
        self.assertIsNone(refusal(filled, ((0, None),), 300, box(1, 1)))
        self.assertIs(refusal(filled, ((0, None),), 301, box(1, 1)), TooGreat)

    def test_too_great_even_where_it_is_seen_at_once(self):
        self.assertIs(refusal(filled, ((0, 0) + (None,) * 9,), 2, box(1, 1)), TooGreat)

    def test_nothing_is_changed(self):
        torn = ((0, None), (None, 1))
        self.assertEqual(filled(torn, 2, box(1, 1))[0], "tree")
        self.assertEqual(torn, ((0, None), (None, 1)))
        self.assertEqual(holes_of(torn), [(0, 1), (1, 0)])

"""Points 22 and 23: how far windows are apart, and torn and wrong cells."""

import itertools
import random
import unittest

from tests.helpers import FLOORS, SHAPES, is_plain, places, seen_at, some_floor, some_shape
from windowfloor.laying import full_floor
from windowfloor.shapes import box
from windowfloor.tearing import apart, bears, nearest

GREAT = tuple(tuple((r * r + 3 * c + r * c) % 7 for c in range(8)) for r in range(8))
TWO_PLACES = [((0, 1),), ((0, 0),), ((3,), (5,)), ((4,), (4,))]


def some_pairs():
    chance = random.Random(22)
    pairs = [(floor, shape) for floor in [*FLOORS, *TWO_PLACES, GREAT] for shape in SHAPES if len(places(floor)) > 1]
    for count in range(100):
        floor = some_floor(chance, 5, 3)
        if len(places(floor)) > 1:
            pairs.append((floor, some_shape(chance, 4, 4, 7)))
    return pairs


def differing(one, other):
    return sum(a != b for a, b in zip(one, other) if b is not None)


class Apart(unittest.TestCase):
    def test_by_hand(self):
        self.assertEqual(apart(((0, 1, 1), (1, 0, 2)), box(1, 1)), (0, (0, 0), (1, 1)))
        self.assertEqual(apart(((0, 1, 2),), box(1, 2)), (2, (0, 0), (0, 1)))
        self.assertEqual(apart(((0, 0, 1, 1),), box(1, 2)), (1, (0, 0), (0, 1)))
        self.assertEqual(apart(((0, 1, 0, 2),), box(1, 2)), (1, (0, 0), (0, 2)))
        self.assertEqual(apart(((0, 1, 0, 2),), box(1, 3)), (1, (0, 0), (0, 2)))

    def test_two_places(self):
        self.assertEqual(apart(((0, 1),), box(1, 1)), (1, (0, 0), (0, 1)))
        self.assertEqual(apart(((0, 1),), box(1, 2)), (2, (0, 0), (0, 1)))
        self.assertEqual(apart(((0,), (1,)), box(4, 4)), (16, (0, 0), (1, 0)))
        self.assertEqual(apart(((4,), (4,)), box(4, 4)), (0, (0, 0), (1, 0)))

    def test_64_places(self):
        floor = full_floor(2, 2, 3)
        self.assertEqual(len(places(floor)), 64)
        self.assertEqual(apart(floor, box(2, 3))[0], 1)
        self.assertEqual(apart(((0,) * 64,), box(1, 16)), (0, (0, 0), (0, 1)))
        self.assertEqual(apart(((0,) * 63 + (1,),), box(1, 1)), (0, (0, 0), (0, 1)))
        self.assertEqual(apart(((1,) + (0,) * 63,), box(1, 1)), (0, (0, 1), (0, 2)))

    def test_as_the_definition(self):
        for floor, shape in some_pairs():
            told = apart(floor, shape)
            wanted = min(
                (differing(seen_at(floor, shape, one), seen_at(floor, shape, other)), one, other)
                for one, other in itertools.combinations(places(floor), 2)
            )
            self.assertEqual(told, wanted, (floor, shape))
            self.assertTrue(is_plain(told))

    def test_a_floor_of_one_place_raises_nothing(self):
        self.assertIsNone(apart(((3,),), box(2, 2)))
        self.assertEqual(bears(((3,),), box(2, 2)), 4)


class Bears(unittest.TestCase):
    def test_by_hand(self):
        self.assertEqual(bears(((0, 1),), box(1, 1)), 0)
        self.assertEqual(bears(((0, 1),), box(1, 2)), 1)
        self.assertEqual(bears(((0, 1, 2),), box(1, 3)), 2)
        self.assertEqual(bears(((0,), (1,)), box(4, 4)), 15)
        self.assertEqual(bears(full_floor(2, 2, 3), box(2, 3)), 0)

    def test_twins(self):
        self.assertEqual(bears(((4, 4),), box(1, 1)), -1)
        self.assertEqual(bears(((0, 1, 0, 1),), box(1, 16)), -1)

    def test_whichever_so_many_are_torn(self):
        for floor, shape in some_pairs():
            if len(shape) > 7:
                self.assertEqual(bears(floor, shape), apart(floor, shape)[0] - 1)
                continue
            looks = [seen_at(floor, shape, place) for place in places(floor)]
            # The least number of cells that leave two windows alike, whichever are torn.
            that_do = [
                len(torn) for many in range(len(shape) + 1) for torn in itertools.combinations(range(len(shape)), many)
                if len({tuple(sign for at, sign in enumerate(look) if at not in torn) for look in looks}) < len(looks)
            ]
            self.assertEqual(bears(floor, shape), min(that_do) - 1, (floor, shape))


class Nearest(unittest.TestCase):
    def test_by_hand(self):
        floor = ((0, 0, 1, 1),)
        self.assertEqual(nearest(floor, box(1, 2), (0, 1)), (0, ((0, 1),)))
        self.assertEqual(nearest(floor, box(1, 2), (0, 5)), (1, ((0, 0), (0, 1))))
        self.assertEqual(nearest(floor, box(1, 2), (5, 5)), (2, ((0, 0), (0, 1), (0, 2), (0, 3))))
        self.assertEqual(nearest(floor, box(1, 2), (None, 5)), (1, ((0, 0), (0, 1), (0, 2), (0, 3))))
        self.assertEqual(nearest(floor, box(1, 2), (None, 1)), (0, ((0, 1), (0, 2))))

    def test_all_cells_torn(self):
        for floor, shape in some_pairs():
            self.assertEqual(nearest(floor, shape, (None,) * len(shape)), (0, tuple(places(floor))))

    def test_no_cell_torn_none_wrong(self):
        for floor, shape in some_pairs():
            for place in places(floor):
                wrong, found = nearest(floor, shape, seen_at(floor, shape, place))
                self.assertEqual(wrong, 0)
                self.assertIn(place, found)

    def test_as_the_definition(self):
        chance = random.Random(23)
        for floor, shape in some_pairs():
            seen = tuple(chance.choice((None, 0, 1, 2, 35)) for cell in shape)
            told = nearest(floor, shape, seen)
            wrongs = {place: differing(seen_at(floor, shape, place), seen) for place in places(floor)}
            least = min(wrongs.values())
            self.assertEqual(told, (least, tuple(place for place in places(floor) if wrongs[place] == least)))
            self.assertTrue(is_plain(told))

    def test_one_wrong(self):
        floor = ((0, 1, 2, 3, 4),)
        for place in places(floor):
            seen = seen_at(floor, box(1, 3), place)
            for at in range(3):
                self.assertEqual(nearest(floor, box(1, 3), seen[:at] + (35,) + seen[at + 1:]), (1, (place,)))

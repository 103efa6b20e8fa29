"""Points 24 and 25: least parts, least tears, least boxes."""

import itertools
import random
import unittest

from tests.helpers import FLOORS, SHAPES, is_plain, places, seen_at, some_floor, some_shape
from windowfloor.laying import full_floor
from windowfloor.parts import least_boxes, least_parts, least_tears
from windowfloor.shapes import box
from windowfloor.windows import places_of

GREAT = tuple(tuple((r * r + 3 * c + r * c) % 7 for c in range(8)) for r in range(8))
SEVEN = ((0, 0), (0, 2), (1, 1), (1, 3), (2, 0), (3, 2), (3, 3))


def some_pairs():
    chance = random.Random(24)
    floors = [floor for floor in [*FLOORS, GREAT, full_floor(2, 2, 3)] if len(places(floor)) > 1]
    shapes = [shape for shape in SHAPES if len(shape) <= 7] + [SEVEN, box(1, 7), box(7, 1)]
    pairs = list(itertools.product(floors, shapes))
    for count in range(100):
        floor = some_floor(chance, 5, 3)
        if len(places(floor)) > 1:
            pairs.append((floor, some_shape(chance, 4, 4, 7)))
    return pairs


def all_parts(shape):
    return [part for many in range(len(shape) + 1) for part in itertools.combinations(range(len(shape)), many)]


def tells(floor, shape, part):
    looks = [tuple(seen_at(floor, shape, place)[at] for at in part) for place in places(floor)]
    return len(set(looks)) == len(looks)


def is_tear(floor, shape, part):
    for place in places(floor):
        seen = tuple(None if at in part else sign for at, sign in enumerate(seen_at(floor, shape, place)))
        if len(places_of(floor, shape, seen)) > 1:
            return True
    return False


def least_ones(parts):
    """Those with none of the others within them."""
    return tuple(sorted(part for part in parts if not any(set(other) < set(part) for other in parts)))


class LeastParts(unittest.TestCase):
    def test_by_hand(self):
        self.assertEqual(least_parts(((0, 1),), box(1, 1)), ((0,),))
        self.assertEqual(least_parts(((0, 1),), box(1, 3)), ((0,), (1,), (2,)))
        self.assertEqual(least_parts(((0, 0, 1, 1),), box(1, 3)), ((0, 1), (1, 2)))
        self.assertEqual(least_parts(((0, 0, 1, 1),), box(1, 4)), ((0, 1), (0, 3), (1, 2), (2, 3)))
        self.assertEqual(least_parts(((0, 0, 0, 1),), box(1, 4)), ((0, 1, 2), (0, 1, 3), (0, 2, 3), (1, 2, 3)))

    def test_rising_though_of_unlike_lengths(self):
        told = least_parts(((0, 1, 0), (1, 2, 0)), box(2, 3))
        self.assertEqual(told, ((0, 1, 2), (0, 4), (0, 5), (1, 3), (1, 5), (2, 3), (2, 4), (3, 4, 5)))

    def test_as_the_definition(self):
        for floor, shape in some_pairs():
            told = least_parts(floor, shape)
            self.assertEqual(told, least_ones([part for part in all_parts(shape) if tells(floor, shape, part)]), (floor, shape))
            self.assertTrue(is_plain(told))

    def test_twins(self):
        self.assertEqual(least_parts(((4, 4),), box(1, 7)), ())
        self.assertEqual(least_parts(((0, 1, 0, 1),), box(1, 2)), ())

    def test_a_floor_of_one_place_raises_nothing(self):
        self.assertEqual(least_parts(((3,),), box(1, 2)), ((),))
        self.assertEqual(least_tears(((3,),), box(1, 2)), ())


class LeastTears(unittest.TestCase):
    def test_by_hand(self):
        self.assertEqual(least_tears(((0, 1),), box(1, 1)), ((0,),))
        self.assertEqual(least_tears(((0, 1),), box(1, 3)), ((0, 1, 2),))
        self.assertEqual(least_tears(((0, 0, 1, 1),), box(1, 3)), ((0, 2), (1,)))
        self.assertEqual(least_tears(((0, 0, 0, 1),), box(1, 4)), ((0, 1), (0, 2), (0, 3), (1, 2), (1, 3), (2, 3)))

    def test_twins(self):
        # The part without cells.
        self.assertEqual(least_tears(((4, 4),), box(1, 7)), ((),))
        self.assertEqual(least_tears(((0, 1, 0, 1),), box(1, 2)), ((),))

    def test_as_the_definition(self):
        for floor, shape in some_pairs():
            told = least_tears(floor, shape)
            if len(places(floor)) <= 25 and len(shape) <= 5:
                wanted = [part for part in all_parts(shape) if is_tear(floor, shape, part)]
            else:
                rest_of = {part: tuple(at for at in range(len(shape)) if at not in part) for part in all_parts(shape)}
                wanted = [part for part in all_parts(shape) if not tells(floor, shape, rest_of[part])]
            self.assertEqual(told, least_ones(wanted), (floor, shape))
            self.assertTrue(is_plain(told))

    def test_a_part_tells_just_where_it_has_a_cell_of_each_least_tear(self):
        for floor, shape in some_pairs():
            tears = least_tears(floor, shape)
            for part in all_parts(shape):
                self.assertEqual(tells(floor, shape, part), all(set(part) & set(tear) for tear in tears))


class LeastBoxes(unittest.TestCase):
    def test_by_hand(self):
        self.assertEqual(least_boxes(((0, 1),), 1), ((1, 1),))
        self.assertEqual(least_boxes(((0, 1),), 2), ((1, 2),))
        self.assertEqual(least_boxes(((0, 1),), 3), ())
        self.assertEqual(least_boxes(((0, 0, 1, 1),), 1), ((1, 2),))
        self.assertEqual(least_boxes(((0, 1), (1, 0)), 1), ())
        self.assertEqual(least_boxes(((0, 1), (1, 1)), 1), ((2, 2),))
        self.assertEqual(least_boxes(((0, 1), (1, 2)), 1), ((1, 2), (2, 1)))

    def test_many_greater_than_any_shape_tells(self):
        for floor in FLOORS:
            if 1 < len(places(floor)) <= 20:
                self.assertEqual(least_boxes(floor, 17), ())
                self.assertEqual(least_boxes(floor, 10 ** 6), ())
        self.assertEqual(least_boxes(((0,) * 20,), 1), ())

    def naive_boxes(self, floor, many):
        def is_so(a, b):
            looks = [seen_at(floor, box(a, b), place) for place in places(floor)]
            return all(sum(x != y for x, y in zip(*two)) >= many for two in itertools.combinations(looks, 2))

        told = []
        for a, b in itertools.product(range(1, len(floor) + 1), range(1, len(floor[0]) + 1)):
            if a * b <= 16 and is_so(a, b):
                if not (a > 1 and is_so(a - 1, b)) and not (b > 1 and is_so(a, b - 1)):
                    told.append((a, b))
        return tuple(told)

    def test_as_the_definition(self):
        chance = random.Random(25)
        floors = [floor for floor in FLOORS if 1 < len(places(floor)) <= 20]
        while len(floors) < 60:
            floor = some_floor(chance, 5, chance.randint(2, 4))
            if 1 < len(places(floor)) <= 20:
                floors.append(floor)
        for floor in floors:
            for many in range(1, 8):
                told = least_boxes(floor, many)
                self.assertEqual(told, self.naive_boxes(floor, many), (floor, many))
                self.assertTrue(is_plain(told))

    def test_20_places(self):
        chance = random.Random(26)
        for high, wide in ((1, 20), (20, 1), (4, 5), (5, 4), (2, 10)):
            for k in (2, 3, 20):
                floor = tuple(tuple(chance.randrange(k) for c in range(wide)) for r in range(high))
                for many in (1, 2, 3, 9, 16):
                    self.assertEqual(least_boxes(floor, many), self.naive_boxes(floor, many), (floor, many))

    def test_boxes_of_just_sixteen_and_more(self):
        # A row that only words of 16 tell, and one that only words of 17 would.
        self.assertEqual(least_boxes(((1,) + (0,) * 16,), 1), ((1, 16),))
        self.assertEqual(least_boxes(((1,) + (0,) * 17,), 1), ())
        self.assertEqual(least_boxes(((1,),) + ((0,),) * 16, 1), ((16, 1),))
        self.assertEqual(least_boxes(((1,),) + ((0,),) * 17, 1), ())

    def test_a_floor_of_one_place_raises_nothing(self):
        self.assertEqual(least_boxes(((3,),), 1), ((1, 1),))

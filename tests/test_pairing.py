"""Points 20 and 21: floors paired, and read by the places on both."""

import itertools
import math
import random
import unittest

from tests.helpers import FLOORS, SHAPES, is_plain, places, refusal, seen_at, sign_at, some_whole
from windowfloor.errors import TooGreat
from windowfloor.floors import is_floor
from windowfloor.pairing import meeting, paired, read_paired
from windowfloor.shapes import box

FAR = 10 ** 6


def naive_meeting(one, m, other, n):
    that_meet = [number for number in range(m * n) if number % m == one and number % n == other]
    return that_meet[0] if that_meet else None


def below(floor):
    """The least k below which all signs of the floor are."""
    return 1 + max(max(row) for row in floor)


class Meeting(unittest.TestCase):
    def test_by_hand(self):
        self.assertEqual(meeting(2, 3, 3, 5), 8)
        self.assertEqual(meeting(1, 4, 3, 6), 9)
        self.assertEqual(meeting(0, 6, 4, 10), 24)
        self.assertIsNone(meeting(0, 4, 1, 6))
        self.assertEqual(meeting(0, 7, 0, 9), 0)
        self.assertEqual(meeting(6, 7, 6, 9), 6)

    def test_one(self):
        self.assertEqual(meeting(0, 1, 0, 1), 0)
        for n in (1, 2, 7, FAR):
            for number in {0, n // 2, n - 1}:
                self.assertEqual(meeting(0, 1, number, n), number)
                self.assertEqual(meeting(number, n, 0, 1), number)

    def test_alike(self):
        for n in (1, 2, 12, FAR):
            self.assertEqual(meeting(n - 1, n, n - 1, n), n - 1)
        self.assertIsNone(meeting(0, 2, 1, 2))
        self.assertIsNone(meeting(FAR - 1, FAR, FAR - 2, FAR))

    def test_one_parts_the_other(self):
        self.assertEqual(meeting(1, 3, 7, 9), 7)
        self.assertEqual(meeting(7, 9, 1, 3), 7)
        self.assertIsNone(meeting(2, 3, 7, 9))

    def test_as_the_definition(self):
        for m, n in itertools.product(range(1, 13), repeat=2):
            for one, other in itertools.product(range(m), range(n)):
                told = meeting(one, m, other, n)
                self.assertEqual(told, naive_meeting(one, m, other, n), (one, m, other, n))
                self.assertTrue(is_plain(told))

    def test_great_numbers(self):
        chance = random.Random(20)
        for m, n in (
            (FAR, FAR - 1), (FAR - 1, FAR), (FAR, FAR), (FAR, 10 ** 5), (999983, FAR), (720720, 510510), (FAR, 2),
        ):
            most = m * n // math.gcd(m, n)
            for number in (0, 1, most - 1, *[chance.randrange(most) for count in range(20)]):
                self.assertEqual(meeting(number % m, m, number % n, n), number)
        for m, n in ((FAR, FAR), (FAR, 10 ** 5), (720720, 510510), (FAR, 2)):
            self.assertIsNone(meeting(0, m, 1, n))


class Paired(unittest.TestCase):
    def test_by_hand(self):
        self.assertEqual(paired(((0, 1),), ((0,), (2,)), 3), ((0, 3), (2, 5)))
        self.assertEqual(paired(((0, 1),), ((0, 1, 2),), 3), ((0, 4, 2, 3, 1, 5),))
        self.assertEqual(paired(((4,),), ((1,),), 7), ((29,),))
        self.assertEqual(paired(((1, 2), (3, 4)), ((0, 1), (1, 0)), 2), ((2, 5), (7, 8)))

    def test_k_1(self):
        self.assertEqual(paired(((0, 35),), ((0,),), 1), ((0, 35),))
        self.assertEqual(paired(((7,), (8,)), ((0, 0, 0),), 1), ((7, 7, 7), (8, 8, 8)))

    def test_as_the_definition(self):
        for one, other in itertools.product(FLOORS, repeat=2):
            for k in {below(other), below(other) + 3}:
                if below(one) * k > 36:
                    continue
                high, wide = math.lcm(len(one), len(other)), math.lcm(len(one[0]), len(other[0]))
                told = paired(one, other, k)
                self.assertEqual((len(told), len(told[0])), (high, wide))
                for r, c in places(told):
                    self.assertEqual(told[r][c], sign_at(one, r, c) * k + sign_at(other, r, c))
                self.assertTrue(is_floor(told) and is_plain(told))

    def test_just_600_places(self):
        one, other = ((0, 1, 2, 3, 4),) * 8, ((0, 1, 0),) * 5
        self.assertEqual(paired(one, other, 2), (tuple(c % 5 * 2 + (0, 1, 0)[c % 3] for c in range(15)),) * 40)
        self.assertEqual(paired(((0,) * 24,), ((1,) * 25,), 2), ((1,) * 600,))
        self.assertEqual(paired(((0,),) * 600, ((0,),) * 300, 1), ((0,),) * 600)

    def test_more_places_are_refused(self):
        for high, wide, other_high, other_wide in (
            (1, 601, 1, 1), (1, 24, 1, 35), (24, 1, 35, 1), (1, 599, 1, 600), (599, 1, 600, 1), (20, 30, 3, 7), (24, 25, 1, 2),
            (600, 1, 1, 2), (1, 600, 7, 1), (24, 24, 25, 24),
        ):
            one, other = ((0,) * wide,) * high, ((0,) * other_wide,) * other_high
            self.assertIs(refusal(paired, one, other, 1), TooGreat, (high, wide, other_high, other_wide))

    def test_signs_of_just_35_and_of_36(self):
        self.assertEqual(paired(((5,),), ((5,),), 6), ((35,),))
        self.assertEqual(paired(((7,),), ((0,),), 5), ((35,),))
        self.assertEqual(paired(((0,),), ((35,),), 36), ((35,),))
        self.assertIs(refusal(paired, ((6,),), ((0,),), 6), TooGreat)
        self.assertIs(refusal(paired, ((7,),), ((1,),), 5), TooGreat)
        self.assertIs(refusal(paired, ((1,),), ((0,),), 36), TooGreat)
        self.assertIs(refusal(paired, ((35,),), ((35,),), 36), TooGreat)

    def test_only_signs_that_come_together_count(self):
        # 7 and 4 never stand at one place here, but they do where one floor is wider.
        self.assertEqual(paired(((0, 7),), ((4, 0),), 5), ((4, 35),))
        self.assertIs(refusal(paired, ((0, 7),), ((4, 0, 0),), 5), TooGreat)
        self.assertIs(refusal(paired, ((0, 0), (0, 7)), ((0, 0), (0, 4)), 5), TooGreat)
        self.assertIs(refusal(paired, ((7, 0), (0, 0)), ((4, 0), (0, 0)), 5), TooGreat)


class ReadPaired(unittest.TestCase):
    def check(self, one, other, k, shape, some_seen):
        floor = paired(one, other, k)
        place_of = {seen_at(floor, shape, place): place for place in places(floor)}
        self.assertEqual(len(place_of), len(places(floor)))
        for seen in [*place_of, *some_seen]:
            told = read_paired(one, other, k, shape, seen)
            self.assertEqual(told, place_of.get(seen), (one, other, k, shape, seen))
            self.assertTrue(is_plain(told))

    def test_by_hand(self):
        one, other = ((0, 1),), ((0, 1, 2),)
        # The paired floor is 042315.
        self.assertEqual(read_paired(one, other, 3, box(1, 1), (3,)), (0, 3))
        self.assertEqual(read_paired(one, other, 3, box(1, 2), (1, 5)), (0, 4))
        self.assertEqual(read_paired(one, other, 3, box(1, 2), (5, 0)), (0, 5))
        self.assertIsNone(read_paired(one, other, 3, box(1, 2), (5, 1)))
        self.assertEqual(read_paired(((7,),), ((0,),), 1, box(1, 1), (7,)), (0, 0))

    def test_nowhere(self):
        one, other = ((0, 1),), ((0, 0, 1),)
        shape = box(1, 2)
        self.check(one, other, 2, shape, itertools.product(range(6), repeat=2))
        # Nowhere in one, nowhere in the other, nowhere in both.
        self.assertIsNone(read_paired(one, other, 2, shape, (0, 0)))
        self.assertIsNone(read_paired(one, other, 2, shape, (1, 3)))
        self.assertIsNone(read_paired(one, other, 2, shape, (1, 1)))

    def test_never_at_one_place(self):
        # Both go round together, so only like places meet: in rows, and in columns.
        for one, other in ((((0, 1),), ((0, 1),)), (((0,), (1,)), ((0,), (1,))), (((0, 1),), ((0, 1, 2, 3),))):
            k = below(other)
            for sign in range(below(one) * k):
                floor = paired(one, other, k)
                stands = [(r, c) for r, c in places(floor) if floor[r][c] == sign]
                self.assertEqual(read_paired(one, other, k, box(1, 1), (sign,)), stands[0] if stands else None)
        self.assertIsNone(read_paired(((0, 1),), ((0, 1),), 2, box(1, 1), (1,)))
        self.assertIsNone(read_paired(((0,), (1,)), ((0,), (1,)), 2, box(1, 1), (2,)))

    def test_any_whole_floors(self):
        chance = random.Random(21)
        for shape in (box(1, 1), box(2, 2), ((0, 0), (1, 2), (2, 1)), ((0, 1), (1, 0), (1, 1)), box(1, 3)):
            for count in range(30):
                one, other = some_whole(chance, shape, 4), some_whole(chance, shape, 6)
                k = chance.randint(6, 9)
                self.check(one, other, k, shape, [tuple(chance.randrange(36) for cell in shape) for some in range(20)])

    def test_one_cell_changed(self):
        one, other = ((0, 0, 1), (1, 1, 2), (2, 2, 0)), ((0, 1), (2, 3))
        shape = box(2, 2)
        floor = paired(one, other, 4)
        changed = []
        for place in places(floor):
            seen = seen_at(floor, shape, place)
            changed += [seen[:at] + (sign,) + seen[at + 1:] for at in range(4) for sign in range(36)]
        self.check(one, other, 4, shape, changed)

"""Points 28 and 29: floors folded of rows, patterns of shapes, reading by sums."""

import itertools
import random
import unittest

from tests.helpers import SHAPES, all_states, coprime_sizes, is_plain, places, refusal, seen_at, some_shape
from windowfloor.errors import NoWay
from windowfloor.floors import is_floor
from windowfloor.folding import folded, pattern_of, read_folded
from windowfloor.machines import is_greatest, machine_row
from windowfloor.seeing import judged, shown
from windowfloor.shapes import box

SIZES = [(1, 1), (1, 2), (2, 1), (1, 7), (7, 1), (2, 3), (3, 2), (3, 5), (5, 3), (4, 9), (9, 4), (7, 73), (1, 511), (600, 1)]
SIZES += [(1, 600), (24, 25), (8, 75), (31, 11)]


def naive_number(high, wide, r, c):
    number = 0
    while number % high != r or number % wide != c:
        number += 1
    return number


def naive_folded(row, high, wide):
    table = [[None] * wide for r in range(high)]
    for at, sign in enumerate(row):
        table[at % high][at % wide] = sign
    return tuple(map(tuple, table))


def some_machines():
    """(machine, state) of rows of all sorts, not of noughts alone."""
    chance = random.Random(29)
    told = [((2, (1,)), (1,)), ((2, (1, 1)), (0, 1)), ((7, (3,)), (1,)), ((3, (1, 0)), (1, 2)), ((2, (1, 1, 1)), (1, 0, 1))]
    for k, m in ((2, 3), (2, 4), (3, 2), (3, 3), (5, 2), (7, 1), (7, 2)):
        for count in range(5):
            machine = (k, (chance.randrange(1, k), *[chance.randrange(k) for tap in range(m - 1)]))
            told.append((machine, chance.choice(all_states(machine)[1:])))
    return told


class Folded(unittest.TestCase):
    def test_by_hand(self):
        self.assertEqual(folded((0, 1, 2, 3, 4, 5), 2, 3), ((0, 4, 2), (3, 1, 5)))
        self.assertEqual(folded((0, 1, 2, 3, 4, 5), 3, 2), ((0, 3), (4, 1), (2, 5)))
        self.assertEqual(folded((0, 1, 2), 1, 3), ((0, 1, 2),))
        self.assertEqual(folded((0, 1, 2), 3, 1), ((0,), (1,), (2,)))

    def test_rows_of_one_sign(self):
        self.assertEqual(folded((0,), 1, 1), ((0,),))
        self.assertEqual(folded((35,), 1, 1), ((35,),))

    def test_as_the_definition(self):
        chance = random.Random(28)
        for high, wide in SIZES:
            row = tuple(chance.randrange(36) for sign in range(high * wide))
            told = folded(row, high, wide)
            self.assertEqual(told, naive_folded(row, high, wide))
            self.assertTrue(is_floor(told) and is_plain(told))
            self.assertEqual(folded(row, high, wide), told)

    def test_not_high_times_wide_signs(self):
        for high, wide in SIZES:
            for many in (high * wide - 1, high * wide + 1, high + wide, 2 * high * wide):
                if many != high * wide:
                    self.assertIs(refusal(folded, (0,) * many, high, wide), NoWay, (high, wide, many))
        self.assertIs(refusal(folded, (0,), 10 ** 6, 10 ** 6), NoWay)
        self.assertIs(refusal(folded, (0,), 1, 10 ** 6), NoWay)

    def test_a_common_divisor(self):
        for high, wide in ((2, 2), (2, 4), (4, 2), (3, 3), (6, 4), (10, 15), (20, 30), (5, 100), (23, 23)):
            self.assertIs(refusal(folded, (0,) * (high * wide), high, wide), NoWay, (high, wide))

    def test_both_at_once(self):
        for high, wide in ((2, 2), (2, 4), (3, 3), (10, 15), (10 ** 6, 10 ** 6)):
            self.assertIs(refusal(folded, (0,) * 5, high, wide), NoWay, (high, wide))


class PatternOf(unittest.TestCase):
    def test_by_hand(self):
        self.assertEqual(pattern_of(((0, 0),), 2, 3), (0,))
        self.assertEqual(pattern_of(box(2, 2), 2, 3), (0, 4, 3, 1))
        self.assertEqual(pattern_of(box(2, 3), 2, 3), (0, 4, 2, 3, 1, 5))
        self.assertEqual(pattern_of(box(1, 3), 1, 7), (0, 1, 2))
        self.assertEqual(pattern_of(box(3, 1), 7, 1), (0, 1, 2))
        self.assertEqual(pattern_of(box(3, 2), 1, 1), (0,) * 6)

    def test_shapes_that_go_round_more_than_once(self):
        self.assertEqual(pattern_of(((0, 0), (0, 3), (2, 0), (4, 6)), 2, 3), (0, 0, 0, 0))
        self.assertEqual(pattern_of(((0, 39), (39, 0)), 2, 3), (0, 3))
        self.assertEqual(pattern_of(box(1, 16), 1, 3), (0, 1, 2) * 5 + (0,))

    def test_as_the_definition(self):
        for (high, wide), shape in itertools.product(SIZES, SHAPES):
            told = pattern_of(shape, high, wide)
            self.assertEqual(told, tuple(naive_number(high, wide, i % high, j % wide) for i, j in shape), (high, wide, shape))
            self.assertTrue(is_plain(told))

    def test_a_common_divisor(self):
        for high, wide in ((2, 2), (4, 6), (600, 600)):
            self.assertIs(refusal(pattern_of, box(2, 2), high, wide), NoWay)

    def test_windows_are_what_the_pattern_shows(self):
        for machine, state in some_machines():
            row = machine_row(machine, state)
            for high, wide in coprime_sizes(len(row)):
                floor = folded(row, high, wide)
                for shape in SHAPES:
                    pattern = pattern_of(shape, high, wide)
                    self.assertEqual(shown(machine, pattern, state), seen_at(floor, shape, (0, 0)))


class ReadFolded(unittest.TestCase):
    def some_cases(self):
        """(machine, state, high, wide, shape, paper, floor), the paper one that sees."""
        chance = random.Random(30)
        for machine, state in some_machines():
            row = machine_row(machine, state)
            for high, wide in coprime_sizes(len(row)):
                shapes = SHAPES + [some_shape(chance, 4, 4, 9) for count in range(6)]
                for shape in shapes:
                    sort, paper = judged(machine, pattern_of(shape, high, wide))
                    if sort == "sees":
                        yield machine, state, high, wide, shape, paper, folded(row, high, wide)

    def test_by_hand(self):
        machine, state = (2, (1, 1)), (0, 1)
        # The row is 011, the floor 011 in one row; the paper of both cells is the state itself.
        paper = ((1, 0), (0, 1))
        for seen, wanted in (((0, 1), (0, 0)), ((1, 1), (0, 1)), ((1, 0), (0, 2)), ((0, 0), None)):
            self.assertEqual(read_folded(machine, state, 1, 3, box(1, 2), paper, seen), wanted)
            there = None if wanted is None else (wanted[1], 0)
            self.assertEqual(read_folded(machine, state, 3, 1, box(2, 1), paper, seen), there)

    def test_one_place(self):
        self.assertEqual(read_folded((2, (1,)), (1,), 1, 1, box(1, 1), ((1,),), (1,)), (0, 0))
        self.assertIsNone(read_folded((2, (1,)), (1,), 1, 1, box(1, 1), ((1,),), (0,)))
        self.assertEqual(read_folded((2, (1,)), (1,), 1, 1, box(2, 2), ((0, 0, 1, 0),), (1, 1, 1, 1)), (0, 0))
        self.assertIsNone(read_folded((2, (1,)), (1,), 1, 1, box(2, 2), ((0, 0, 1, 0),), (1, 1, 1, 0)))

    def test_each_window_tells_its_place(self):
        done = 0
        for machine, state, high, wide, shape, paper, floor in self.some_cases():
            for place in places(floor):
                seen = seen_at(floor, shape, place)
                told = read_folded(machine, state, high, wide, shape, paper, seen)
                self.assertEqual(told, place, (machine, state, high, wide, shape))
                self.assertTrue(is_plain(told))
            done += 1
        self.assertGreater(done, 200)

    def test_what_stands_nowhere(self):
        chance = random.Random(31)
        nowhere = 0
        for machine, state, high, wide, shape, paper, floor in self.some_cases():
            looks = {seen_at(floor, shape, place): place for place in places(floor)}
            some = [tuple(chance.randrange(machine[0]) for cell in shape) for count in range(5)] + [(0,) * len(shape)]
            for seen in some:
                self.assertEqual(read_folded(machine, state, high, wide, shape, paper, seen), looks.get(seen))
                nowhere += seen not in looks
        self.assertGreater(nowhere, 200)

    def test_one_cell_otherwise(self):
        nowhere = 0
        for machine, state, high, wide, shape, paper, floor in self.some_cases():
            looks = {seen_at(floor, shape, place): place for place in places(floor)}
            for seen in list(looks)[:4]:
                for at in range(len(shape)):
                    other = seen[:at] + ((seen[at] + 1) % machine[0],) + seen[at + 1:]
                    told = read_folded(machine, state, high, wide, shape, paper, other)
                    self.assertEqual(told, looks.get(other), (machine, state, high, wide, shape, other))
                    nowhere += other not in looks
        self.assertGreater(nowhere, 200)

    def test_states_of_another_cycle_stand_nowhere(self):
        # By this machine the states go round in several cycles, so the paper tells states that are not on the floor.
        machine, state = (2, (1, 1, 1)), (0, 0, 1)
        self.assertEqual(machine_row(machine, state), (0, 0, 1, 1))
        paper = ((1, 0, 0), (0, 1, 0), (0, 0, 1))
        told = {}
        for seen in itertools.product(range(2), repeat=3):
            told[seen] = read_folded(machine, state, 1, 4, box(1, 3), paper, seen)
        self.assertEqual({seen: place for seen, place in told.items() if place is not None}, {
            (0, 0, 1): (0, 0), (0, 1, 1): (0, 1), (1, 1, 0): (0, 2), (1, 0, 0): (0, 3),
        })

    def test_great_machines(self):
        for machine in ((2, (1, 0, 0, 0, 1, 0, 0, 0, 0)), (7, (3, 1, 0)), (3, (1, 2, 0, 0, 2))):
            state = (1,) * len(machine[1])
            row = machine_row(machine, state)
            high, wide = coprime_sizes(len(row))[-2]
            floor = folded(row, high, wide)
            for shape in (box(4, 4), box(3, 3), ((0, 0), (0, 39), (1, 1), (2, 7), (3, 3), (5, 0), (6, 6), (8, 20), (39, 1))):
                sort, paper = judged(machine, pattern_of(shape, high, wide))
                if sort == "sees":
                    for place in places(floor)[::37]:
                        seen = seen_at(floor, shape, place)
                        self.assertEqual(read_folded(machine, state, high, wide, shape, paper, seen), place)

    def test_is_greatest_machines_are_among_those(self):
        self.assertGreater(len([machine for machine, state in some_machines() if is_greatest(machine)]), 3)

"""Point 8: moves."""

import itertools
import unittest

from tests.helpers import FLOORS, SHAPES, STRANGE_THINGS, is_plain, nested, places, seen_at
from windowfloor.moves import back, is_move, moved_floor, moved_place, moved_seen, moved_shape
from windowfloor.shapes import is_shape

FAR = 10 ** 6
ORDER = (35, *range(35))
MOVES = [
    ("shift", 0, 0), ("shift", 1, 0), ("shift", 0, 1), ("shift", 2, 1), ("shift", -1, -2), ("shift", FAR, -FAR),
    ("shift", -FAR, FAR), ("shift", 7, FAR - 1), ("cross",), ("flip",), ("signs", ORDER), ("signs", ORDER[::-1]),
]


class IsMove(unittest.TestCase):
    def test_moves(self):
        for move in MOVES:
            self.assertIs(is_move(move), True, move)

    def test_orders_of_1_to_36_signs(self):
        for many in range(0, 40):
            self.assertIs(is_move(("signs", tuple(range(many)))), 1 <= many <= 36)
            self.assertIs(is_move(("signs", tuple(range(many))[::-1])), 1 <= many <= 36)

    def test_orders_with_each_number_once(self):
        for order in itertools.product(range(-1, 4), repeat=3):
            self.assertIs(is_move(("signs", order)), sorted(order) == [0, 1, 2])

    def test_strange_things(self):
        for thing in STRANGE_THINGS:
            self.assertIs(is_move(thing), False, repr(thing))
            self.assertIs(is_move((thing, 0, 0)), thing == "shift", repr(thing))
            self.assertIs(is_move((thing,)), thing == "cross", repr(thing))
            is_whole = type(thing) is int
            self.assertIs(is_move(("shift", thing, 0)), is_whole, repr(thing))
            self.assertIs(is_move(("shift", 0, thing)), is_whole, repr(thing))
            self.assertIs(is_move(("signs", thing)), False, repr(thing))
            self.assertIs(is_move(("signs", (thing,))), is_whole and thing == 0, repr(thing))

    def test_kinds_and_parts(self):
        for thing in (
            ["cross"], ["shift", 1, 2], ["signs", (0,)], ("signs", [0, 1]), "cross", "flip", ("cross", "flip"), ("shift", 1),
            ("shift", 1, 2, 3), ("shift", 1, True), ("signs", (0, True)), ("signs", (False, 1)), ("signs", 0, 1),
            ("signs", (0,), 1), ("signs",), (), (("cross",),), nested(29, "cross"), ("CROSS",), ("flip ",), (b"flip",),
        ):
            self.assertIs(is_move(thing), False, thing)


class MovedFloor(unittest.TestCase):
    floor = ((0, 1, 2), (3, 4, 5))

    def test_shift(self):
        self.assertEqual(moved_floor(("shift", 0, 1), self.floor), ((1, 2, 0), (4, 5, 3)))
        self.assertEqual(moved_floor(("shift", 1, 0), self.floor), ((3, 4, 5), (0, 1, 2)))
        self.assertEqual(moved_floor(("shift", 1, -1), self.floor), ((5, 3, 4), (2, 0, 1)))
        self.assertEqual(moved_floor(("shift", 2, 3), self.floor), self.floor)

    def test_shifts_by_numbers_to_10_to_the_6(self):
        for i, j in itertools.product((-FAR, 1 - FAR, -7, 0, 5, FAR - 1, FAR), repeat=2):
            for floor in FLOORS:
                high, wide = len(floor), len(floor[0])
                told = moved_floor(("shift", i, j), floor)
                for r, c in places(floor):
                    self.assertEqual(told[r][c], floor[(r + i) % high][(c + j) % wide])

    def test_cross(self):
        self.assertEqual(moved_floor(("cross",), self.floor), ((0, 3), (1, 4), (2, 5)))
        self.assertEqual(moved_floor(("cross",), ((1, 2, 3),)), ((1,), (2,), (3,)))
        self.assertEqual(moved_floor(("cross",), ((1,), (2,))), ((1, 2),))
        self.assertEqual(moved_floor(("cross",), ((0,) * 600,)), ((0,),) * 600)

    def test_flip(self):
        self.assertEqual(moved_floor(("flip",), self.floor), ((3, 4, 5), (0, 1, 2)))
        self.assertEqual(moved_floor(("flip",), ((1,), (2,), (3,))), ((3,), (2,), (1,)))
        self.assertEqual(moved_floor(("flip",), ((1, 2, 3),)), ((1, 2, 3),))

    def test_signs(self):
        self.assertEqual(moved_floor(("signs", (2, 0, 1, 3, 5, 4)), self.floor), ((2, 0, 1), (3, 5, 4)))
        self.assertEqual(moved_floor(("signs", (0,)), ((0, 0),)), ((0, 0),))
        self.assertEqual(moved_floor(("signs", ORDER), ((0, 35),)), ((35, 34),))

    def test_a_sign_that_the_order_does_not_reach_raises_nothing(self):
        self.assertEqual(moved_floor(("signs", (1, 0)), ((0, 1, 2),)), ((1, 0, 2),))


class MovedShape(unittest.TestCase):
    shape = ((0, 2), (1, 0), (1, 1), (3, 1))

    def test_by_hand(self):
        self.assertEqual(moved_shape(("cross",), self.shape), ((0, 1), (1, 1), (1, 3), (2, 0)))
        self.assertEqual(moved_shape(("flip",), self.shape), ((0, 1), (2, 0), (2, 1), (3, 2)))
        self.assertEqual(moved_shape(("shift", 5, -5), self.shape), self.shape)
        self.assertEqual(moved_shape(("signs", (1, 0)), self.shape), self.shape)

    def test_each_is_a_shape(self):
        for move, shape in itertools.product(MOVES, SHAPES):
            told = moved_shape(move, shape)
            self.assertIs(is_shape(told), True)
            self.assertEqual(moved_shape(back(move), told), shape)


class MovedPlace(unittest.TestCase):
    floor = ((0, 1, 2), (3, 4, 5))
    shape = ((0, 0), (1, 2))

    def test_by_hand(self):
        self.assertEqual(moved_place(("shift", 1, 1), self.floor, self.shape, (0, 0)), (1, 2))
        self.assertEqual(moved_place(("shift", -FAR, FAR), self.floor, self.shape, (1, 1)), (1, 0))
        self.assertEqual(moved_place(("cross",), self.floor, self.shape, (1, 2)), (2, 1))
        self.assertEqual(moved_place(("flip",), self.floor, self.shape, (0, 2)), (0, 2))
        self.assertEqual(moved_place(("flip",), self.floor, self.shape, (1, 1)), (1, 1))
        self.assertEqual(moved_place(("flip",), self.floor, ((0, 0),), (0, 2)), (1, 2))
        self.assertEqual(moved_place(("flip",), self.floor, ((0, 0), (39, 0)), (0, 2)), (0, 2))
        self.assertEqual(moved_place(("signs", ORDER), self.floor, self.shape, (1, 2)), (1, 2))


class MovedSeen(unittest.TestCase):
    shape = ((0, 2), (1, 0), (1, 1), (3, 1))

    def test_by_hand(self):
        seen = (5, 6, None, 8)
        self.assertEqual(moved_seen(("shift", 3, 4), self.shape, seen), seen)
        self.assertEqual(moved_seen(("cross",), self.shape, seen), (6, None, 8, 5))
        self.assertEqual(moved_seen(("flip",), self.shape, seen), (8, 6, None, 5))
        self.assertEqual(moved_seen(("signs", ORDER), self.shape, seen), (4, 5, None, 7))
        self.assertEqual(moved_seen(("signs", (1, 0)), self.shape, (0, 1, None, 1)), (1, 0, None, 0))

    def test_all_torn(self):
        for move, shape in itertools.product(MOVES, SHAPES):
            torn = (None,) * len(shape)
            self.assertEqual(moved_seen(move, shape, torn), torn)


class Back(unittest.TestCase):
    def test_by_hand(self):
        self.assertEqual(back(("shift", 3, -4)), ("shift", -3, 4))
        self.assertEqual(back(("cross",)), ("cross",))
        self.assertEqual(back(("flip",)), ("flip",))
        self.assertEqual(back(("signs", (1, 2, 0))), ("signs", (2, 0, 1)))
        self.assertEqual(back(("signs", (0,))), ("signs", (0,)))

    def test_undoes(self):
        for move in MOVES:
            self.assertIs(is_move(back(move)), True)
            for floor in FLOORS:
                self.assertEqual(moved_floor(back(move), moved_floor(move, floor)), floor)

    def test_undoes_places_and_what_is_seen(self):
        for move, floor, shape in itertools.product(MOVES, FLOORS, SHAPES):
            floor_then, shape_then = moved_floor(move, floor), moved_shape(move, shape)
            for place in places(floor):
                place_then = moved_place(move, floor, shape, place)
                self.assertEqual(moved_place(back(move), floor_then, shape_then, place_then), place)
                seen = (None, *seen_at(floor, shape, place)[1:])
                seen_then = moved_seen(move, shape, seen)
                self.assertEqual(moved_seen(back(move), shape_then, seen_then), seen)


class All(unittest.TestCase):
    def test_the_moved_floor_shows_the_moved_windows_at_the_moved_places(self):
        for move, floor, shape in itertools.product(MOVES, FLOORS, SHAPES):
            floor_then, shape_then = moved_floor(move, floor), moved_shape(move, shape)
            for place in places(floor):
                place_then = moved_place(move, floor, shape, place)
                self.assertIn(place_then, places(floor_then))
                seen_then = moved_seen(move, shape, seen_at(floor, shape, place))
                self.assertEqual(seen_at(floor_then, shape_then, place_then), seen_then)

    def test_what_is_told_is_plain(self):
        for move, floor, shape in itertools.product(MOVES, FLOORS, SHAPES):
            self.assertTrue(is_plain(moved_floor(move, floor)))
            self.assertTrue(is_plain(moved_shape(move, shape)))
            self.assertTrue(is_plain(moved_place(move, floor, shape, (0, 0))))
            self.assertTrue(is_plain(moved_seen(move, shape, seen_at(floor, shape, (0, 0)))))
            self.assertTrue(is_plain(back(move)))

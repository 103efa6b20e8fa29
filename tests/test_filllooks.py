"""Point 32: what shows how a torn floor is filled, or that there is none."""

import itertools
import random
import unittest

from tests.helpers import (
    LikeAll, STRANGE_THINGS, TORN_CASES, all_filled, holes_of, is_naively_right, is_naively_whole, nested, places, some_shape,
    some_torn, with_told,
)
from windowfloor.filling import filled
from windowfloor.filllooks import shows_filled
from windowfloor.shapes import box

FLOOR_CASE = (((0, None),), 2, ((0, 0),), ("floor", ((0, 1),)))
TWINS_CASE = (((0, 0),), 2, ((0, 0),), ("tree", ("twins", (0, 0), (0, 1))))
CELL_TREE = ("cell", (0, 1), (("twins", (0, 0), (0, 1)), ("twins", (0, 1), (0, 2))))
CELL_CASE = (((0, None, 1),), 2, ((0, 0),), ("tree", CELL_TREE))
CASES = (FLOOR_CASE, TWINS_CASE, CELL_CASE)


def tree_cases():
    """(torn, k, shape, tree) of all cases of which there is a tree."""
    chance = random.Random(32)
    cases = list(TORN_CASES)
    for count in range(60):
        k = chance.choice((2, 2, 3, 4))
        cases.append((some_torn(chance, 4, k, 3), k, some_shape(chance, 3, 3, 3)))
    for torn, k, shape in cases:
        sort, told = filled(torn, k, shape)
        if sort == "tree":
            yield torn, k, shape, told


def some_right_tree(torn, k, shape, chance):
    """A right tree that asks cells in any order, even where there are twins already, where no floor is whole."""
    spots = places(torn)
    pairs = [pair for pair in itertools.combinations(spots, 2) if is_naively_right(torn, k, shape, ("twins", *pair))]
    holes = holes_of(torn)
    if pairs and (not holes or chance.random() < 0.8):
        return ("twins", *chance.choice(pairs))
    place = chance.choice(holes)
    return ("cell", place, tuple(some_right_tree(with_told(torn, {place: s}), k, shape, chance) for s in range(k)))


def with_other_parts(tree):
    """Trees that differ from this one in one part."""
    name, one, other = tree
    if name == "twins":
        for place in ((0, 0), (0, 1), (1, 0), (0, 2), (5, 5)):
            yield ("twins", place, other)
            yield ("twins", one, place)
        yield ("twins", other, one)
        yield ("cell", one, other)
        yield ("cell", one, (tree, tree))
        return
    for place in ((0, 0), (0, 1), (1, 0), (0, 2), (1, 1), (5, 5), (-1, 0)):
        yield ("cell", place, other)
    yield ("cell", one, other[::-1])
    yield ("cell", one, other[1:])
    yield ("cell", one, other[:-1])
    yield ("cell", one, other + other[-1:])
    yield ("cell", one, ())
    yield ("twins", one, one)
    yield other[0]
    for at, part in enumerate(other):
        for wrong in with_other_parts(part):
            yield ("cell", one, other[:at] + (wrong,) + other[at + 1:])


def naive_is_right(torn, k, shape, tree):
    """Whether the tree is right, of those that with_other_parts tells."""
    name, one, other = tree
    if one not in places(torn):
        return False
    if name == "twins":
        return other in places(torn) and is_naively_right(torn, k, shape, tree)
    if torn[one[0]][one[1]] is not None or len(other) != k or any(len(part) != 3 for part in other):
        return False
    return all(naive_is_right(with_told(torn, {one: sign}), k, shape, part) for sign, part in enumerate(other))


class WhatFilledTells(unittest.TestCase):
    def test_is_shown(self):
        chance = random.Random(33)
        cases = list(TORN_CASES)
        for count in range(150):
            k = chance.choice((2, 3, 4, 5))
            cases.append((some_torn(chance, 4, k, {2: 8, 3: 5, 4: 4, 5: 3}[k]), k, some_shape(chance, 3, 3, 4)))
        for torn, k, shape in cases:
            sort, told = filled(torn, k, shape)
            self.assertIs(shows_filled(torn, k, shape, (sort, told)), True, (torn, k, shape))
            other = {"floor": "tree", "tree": "floor"}[sort]
            for name in (other, "", "Floor", "TREE", "tree ", "twins", "cell"):
                self.assertIs(shows_filled(torn, k, shape, (name, told)), False, (torn, k, shape, name))

    def test_by_hand(self):
        for torn, k, shape, thing in CASES:
            self.assertIs(shows_filled(torn, k, shape, thing), True)


class FloorsShown(unittest.TestCase):
    def test_each_filled_floor(self):
        for torn, k, shape in TORN_CASES:
            for floor in itertools.islice(all_filled(torn, k), 300):
                wanted = is_naively_whole(floor, shape)
                self.assertIs(shows_filled(torn, k, shape, ("floor", floor)), wanted, (torn, k, shape, floor))

    def test_a_sign_otherwise(self):
        for torn, k, shape in TORN_CASES:
            sort, floor = filled(torn, k, shape)
            if sort == "tree":
                continue
            for (r, c), sign in itertools.product(places(torn), range(-1, k + 2)):
                other = with_told(floor, {(r, c): sign})
                right = torn[r][c] in (None, sign) and 0 <= sign < k and is_naively_whole(other, shape)
                self.assertIs(shows_filled(torn, k, shape, ("floor", other)), right, (torn, other))

    def test_a_sign_of_k(self):
        self.assertIs(shows_filled(((0, None),), 2, box(1, 1), ("floor", ((0, 1),))), True)
        self.assertIs(shows_filled(((0, None),), 2, box(1, 1), ("floor", ((0, 2),))), False)
        self.assertIs(shows_filled(((0, None),), 36, box(1, 1), ("floor", ((0, 35),))), True)
        self.assertIs(shows_filled(((0, None),), 36, box(1, 1), ("floor", ((0, 36),))), False)
        self.assertIs(shows_filled(((0, None),), 2, box(1, 1), ("floor", ((0, -1),))), False)

    def test_a_told_sign_changed(self):
        self.assertIs(shows_filled(((0, None, 2),), 3, box(1, 1), ("floor", ((0, 1, 2),))), True)
        self.assertIs(shows_filled(((0, None, 2),), 3, box(1, 1), ("floor", ((2, 1, 0),))), False)
        self.assertIs(shows_filled(((0, 1),), 3, box(1, 1), ("floor", ((0, 2),))), False)

    def test_still_torn(self):
        self.assertIs(shows_filled(((0, None),), 2, box(1, 1), ("floor", ((0, None),))), False)

    def test_other_sizes(self):
        for floor in (((0,), (1,)), ((0, 1, 2),), ((0,),), ((0, 1), (2, 3)), ((),), (), ((0, 1), (1,)), ((0, 1), ())):
            self.assertIs(shows_filled(((0, None),), 4, box(1, 1), ("floor", floor)), False, floor)

    def test_whatever_the_count_of_ways(self):
        # 2 ** 32 ways and more, of which filled tells nothing.
        row = (0, 0, 0, 0, 0, 1, 0, 0, 0, 1, 1, 0, 0, 1, 0, 1, 0, 0, 1, 1, 1, 0, 1, 0, 1, 1, 0, 1, 1, 1, 1, 1)
        self.assertIs(shows_filled(((None,) * 32,), 2, box(1, 5), ("floor", (row,))), True)
        self.assertIs(shows_filled(((None,) * 32,), 36, box(1, 5), ("floor", (row,))), True)
        self.assertIs(shows_filled(((None,) * 32,), 2, box(1, 4), ("floor", (row,))), False)
        self.assertIs(shows_filled(((None,) * 32,), 2, box(1, 5), ("floor", (row[::-1],))), True)
        self.assertIs(shows_filled(((1,) + (None,) * 31,), 2, box(1, 5), ("floor", (row,))), False)


class TreesShown(unittest.TestCase):
    def test_with_one_part_otherwise(self):
        right = wrong = 0
        for torn, k, shape, tree in tree_cases():
            for other in itertools.islice(with_other_parts(tree), 400):
                wanted = naive_is_right(torn, k, shape, other)
                self.assertIs(shows_filled(torn, k, shape, ("tree", other)), wanted, (torn, k, shape, other))
                right += wanted
                wrong += not wanted
        self.assertGreater(right, 20)
        self.assertGreater(wrong, 500)

    def test_cells_asked_in_any_order(self):
        chance = random.Random(34)
        for torn, k, shape, tree in tree_cases():
            if k ** len(holes_of(torn)) <= 100:
                for count in range(3):
                    other = some_right_tree(torn, k, shape, chance)
                    self.assertIs(shows_filled(torn, k, shape, ("tree", other)), True, (torn, k, shape, other))

    def test_each_pair_of_twins(self):
        torn = ((0, 0, None, 0, 0, 1), (0, 0, 1, 1, 0, 0))
        for shape in (box(1, 1), box(1, 2), box(2, 1)):
            for one, other in itertools.product(places(torn), repeat=2):
                wanted = is_naively_right(torn, 2, shape, ("twins", one, other))
                self.assertIs(shows_filled(torn, 2, shape, ("tree", ("twins", one, other))), wanted, (shape, one, other))

    def test_twins_in_the_other_order(self):
        torn, k, shape, thing = TWINS_CASE
        self.assertIs(shows_filled(torn, k, shape, ("tree", ("twins", (0, 1), (0, 0)))), False)
        self.assertIs(shows_filled(torn, k, shape, ("tree", ("twins", (0, 0), (0, 0)))), False)

    def test_twins_whose_cells_are_not_all_told_by_then(self):
        torn = ((0, None, 0, None),)
        self.assertIs(shows_filled(torn, 2, box(1, 2), ("tree", ("twins", (0, 0), (0, 2)))), False)
        self.assertIs(shows_filled(torn, 2, box(1, 1), ("tree", ("twins", (0, 1), (0, 3)))), False)
        self.assertIs(shows_filled(torn, 2, box(1, 1), ("tree", ("twins", (0, 0), (0, 2)))), True)

    def test_twins_that_are_not_alike(self):
        self.assertIs(shows_filled(((0, 1, 0),), 2, box(1, 1), ("tree", ("twins", (0, 0), (0, 1)))), False)
        self.assertIs(shows_filled(((0, 1, 0),), 2, box(1, 1), ("tree", ("twins", (0, 0), (0, 2)))), True)

    def test_a_tree_more_or_fewer_or_in_another_order(self):
        torn, k, shape, thing = CELL_CASE
        name, place, (one, other) = CELL_TREE
        self.assertIs(shows_filled(torn, k, shape, ("tree", (name, place, (one, other)))), True)
        for trees in ((other, one), (one,), (other,), (), (one, other, one), (one, other, other), (one, one), (other, other)):
            self.assertIs(shows_filled(torn, k, shape, ("tree", (name, place, trees))), False, trees)

    def test_at_a_place_that_is_told(self):
        torn = ((0, 0, None),)
        twins = ("twins", (0, 0), (0, 1))
        self.assertIs(shows_filled(torn, 2, box(1, 1), ("tree", twins)), True)
        self.assertIs(shows_filled(torn, 2, box(1, 1), ("tree", ("cell", (0, 2), (twins, twins)))), True)
        for place in ((0, 0), (0, 1), (0, 3), (1, 2), (0, -1), (-1, 2)):
            self.assertIs(shows_filled(torn, 2, box(1, 1), ("tree", ("cell", place, (twins, twins)))), False, place)
        # Told by then, as it was asked once already.
        again = ("cell", (0, 2), (twins, ("cell", (0, 2), (twins, twins))))
        self.assertIs(shows_filled(torn, 2, box(1, 1), ("tree", again)), False)

    def test_whatever_the_count_of_ways(self):
        torn = ((None,) * 40,)
        third = [("twins", (0, 0), (0, 2)), ("twins", (0, 1), (0, 2))]
        tree = ("cell", (0, 0), (
            ("cell", (0, 1), (("twins", (0, 0), (0, 1)), ("cell", (0, 2), (third[0], third[1])))),
            ("cell", (0, 1), (("cell", (0, 2), (third[1], third[0])), ("twins", (0, 0), (0, 1)))),
        ))
        self.assertIs(shows_filled(torn, 2, box(1, 1), ("tree", tree)), True)
        self.assertIs(shows_filled(torn, 3, box(1, 1), ("tree", tree)), False)
        torn = ((7, 7) + (None,) * 38,)
        self.assertIs(shows_filled(torn, 36, box(1, 1), ("tree", ("twins", (0, 0), (0, 1)))), True)

    def test_trees_as_deep_as_may_be(self):
        # Twins from the first, asked behind one more cell each time.
        torn = ((0, 0) + (None,) * 12,)
        tree = ("twins", (0, 0), (0, 1))
        for c in range(2, 14):
            tree = ("cell", (0, c), (tree, tree))
            self.assertIs(shows_filled(torn, 2, box(1, 1), ("tree", tree)), True)
        self.assertIs(shows_filled(((0, 1) + (None,) * 12,), 2, box(1, 1), ("tree", tree)), False)


class OfAnything(unittest.TestCase):
    def test_truths_are_no_numbers(self):
        for thing in (("floor", ((False, 1),)), ("floor", ((0, True),)), ("floor", True), (True, ((0, 1),))):
            self.assertIs(shows_filled(*FLOOR_CASE[:3], thing), False, thing)
        for one, other in (((False, 0), (0, 1)), ((0, False), (0, 1)), ((0, 0), (False, 1)), ((0, 0), (0, True))):
            self.assertIs(shows_filled(*TWINS_CASE[:3], ("tree", ("twins", one, other))), False, (one, other))
            name, place, (first, second) = CELL_TREE
            self.assertIs(shows_filled(*CELL_CASE[:3], ("tree", (name, place, (("twins", one, other), second)))), False)
        for place in ((False, 1), (0, True), (False, True), True):
            self.assertIs(shows_filled(*CELL_CASE[:3], ("tree", ("cell", place, CELL_TREE[2]))), False, place)

    def test_lists_are_no_tuples(self):
        for thing in (["floor", ((0, 1),)], ("floor", [(0, 1)]), ("floor", ([0, 1],)), ["floor", [[0, 1]]]):
            self.assertIs(shows_filled(*FLOOR_CASE[:3], thing), False, thing)
        for tree in (["twins", (0, 0), (0, 1)], ("twins", [0, 0], (0, 1)), ("twins", (0, 0), [0, 1])):
            self.assertIs(shows_filled(*TWINS_CASE[:3], ("tree", tree)), False, tree)
        self.assertIs(shows_filled(*TWINS_CASE[:3], ["tree", ("twins", (0, 0), (0, 1))]), False)
        name, place, trees = CELL_TREE
        for tree in ([name, place, trees], (name, list(place), trees), (name, place, list(trees))):
            self.assertIs(shows_filled(*CELL_CASE[:3], ("tree", tree)), False, tree)

    def test_too_few_and_too_many_parts(self):
        for torn, k, shape, thing in CASES:
            name, told = thing
            for wrong in (
                (), (name,), (told,), (name, told, told), (name, told, None), (told, name), name, told, (thing,), (name, thing),
                (name, (told,)), (name, told + (None,)), (name, told[:-1]), (name, told[1:]), (name, *told), (name, told + told),
                (name, ()), (name, None), (name, name),
            ):
                self.assertIs(shows_filled(torn, k, shape, wrong), False, wrong)

    def test_strange_things(self):
        for torn, k, shape, thing in CASES:
            name, told = thing
            for strange in STRANGE_THINGS:
                wrongs = [strange, (strange, told), (name, strange), ("floor", strange), ("tree", strange), (strange, strange)]
                wrongs += [(name, told[:at] + (strange,) + told[at + 1:]) for at in range(len(told))]
                wrongs += [("floor", ((0, strange),)), ("floor", (strange, strange)), ("tree", ("twins", (0, strange), (0, 1)))]
                wrongs += [("tree", ("twins", (0, 0), (0, strange))), ("tree", ("cell", (0, strange), CELL_TREE[2]))]
                wrongs += [("tree", ("cell", (0, 1), (strange, CELL_TREE[2][1]))), ("tree", ("cell", strange, strange))]
                wrongs += [("tree", ("twins", strange, strange)), ("tree", (strange, (0, 0), (0, 1)))]
                for wrong in wrongs:
                    # Only 0 and 1 themselves make up what is right; repr tells them from truths.
                    right = repr(wrong) == repr(thing)
                    self.assertIs(shows_filled(torn, k, shape, wrong), right, repr(wrong))

    def test_objects_that_are_like_all(self):
        for torn, k, shape, (name, told) in CASES:
            wrongs = [LikeAll(), (LikeAll(), told), (name, LikeAll()), (LikeAll(), LikeAll())]
            wrongs += [(name, told[:at] + (LikeAll(),) + told[at + 1:]) for at in range(len(told))]
            for wrong in wrongs:
                self.assertIs(shows_filled(torn, k, shape, wrong), False)

    def test_nested_deep(self):
        for torn, k, shape, thing in CASES:
            name, told = thing
            for deep in (1, 2, 10, 25):
                for wrong in (nested(deep, thing), (name, nested(deep, told)), (nested(deep, name), told)):
                    self.assertIs(shows_filled(torn, k, shape, wrong), False)
            tree = ("twins", (0, 0), nested(20, 1))
            for deep in range(4):
                tree = ("cell", (0, 1), (tree, tree))
                self.assertIs(shows_filled(torn, k, shape, ("tree", tree)), False)

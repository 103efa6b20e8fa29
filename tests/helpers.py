"""What several tests need: things of any kind, floors, shapes, rows and rules, and all that is told."""

import itertools
import math

from windowfloor.errors import FloorError
from windowfloor.leaning import leans
from windowfloor.words import row_twins


class Odd:
    """An object that is no plain value."""


class LikeAll:
    """An object that says that it is the same as anything."""

    def __eq__(self, other):
        return True


def nested(deep, inner):
    for step in range(deep):
        inner = (inner,)
    return inner


# None of these is a floor, a place, a shape, a move, a round row or a rule for k and n above 1.
STRANGE_THINGS = [
    None, True, False, 0, 1, -1, 35, 10 ** 6, -10 ** 6, "", "a", "shift", "cross", "0,0", "\n", b"", b"\x00",
    (), [], {}, set(), frozenset(), Odd(), Odd, len, range(3), {"a": 1}, {0: (0, 0)}, {(0, 0)},
    (None,), (True,), (False,), ("",), ("0",), ((),), ([],), ({},), (set(),), (Odd(),), (len,), ((), ()), ([], []),
    [0], [0, 0], [[0]], [(0, 0)], [(0,), (0,)], [((0, 0),)], ["cross"], ["shift", 0, 0], [0, 1, 0, 1],
    (None, None), (0, None), (None, 0), (0, True), (False, 0), (False, False), (True, True), ("0", "0"), "00", (b"0", 0),
    ([0],), ([0, 0],), ((None,),), ((True,),), ((False,),), (("0",),), ((0,), [0]), ((0,), None), ((0,), 0), (0, (0,)),
    ((0, 0), [0, 1]), ((0, 0), None), ((0, 0), 5), ((0, True), (0, False)), (((0, 0),), ((0, False),)), ((0, "0"),),
    ("shift",), ("shift", 1), ("shift", 1, 2, 3), ("shift", True, 0), ("shift", 0, False), ("shift", "1", 0),
    ("shift", None, None), ("shift", (1, 2)), ("shift", [1], 2), ("Shift", 1, 2), (b"shift", 1, 2), (("shift",), 1, 2),
    ("cross", 1), ("cross", ()), ("cross", None), ("flip", 0, 0), ("flip", "flip"), ("flips",), ("signs",), ("turn",),
    ("signs", ()), ("signs", (1,)), ("signs", (0, 0)), ("signs", (0, 2)), ("signs", (-1, 0)), ("signs", (False,)),
    ("signs", (True, 0)), ("signs", [0]), ("signs", 0), ("signs", "0"), ("signs", (0,), (0,)), ("signs", 0, 1),
    ("signs", ((0,),)), ("signs", ([],)), ("signs", (None,)), ("signs", {0: 0}), ("signs", (set(), 0)), (set(), 0),
    nested(30, 0), nested(29, ()), nested(28, "a"), nested(20, None), nested(15, True), [nested(20, 0)], [[[[[]]]]],
    (nested(29, 0), nested(29, 0)), (0, nested(29, 0)), ("signs", nested(28, 0)), ("shift", nested(28, 1), 0),
]

FLOORS = [
    ((0,),), ((35,),), ((0, 1),), ((1,), (0,)), ((0, 0), (0, 0)), ((0, 1), (2, 3)), ((0, 1, 1), (1, 0, 2)),
    ((2, 2, 2, 1),), ((4,), (4,), (5,), (4,), (5,)), ((0, 1, 0, 1), (1, 0, 1, 0)), ((0, 0, 1, 0), (1, 1, 1, 0), (0, 2, 1, 2)),
    ((0, 1, 0), (1, 1, 0), (0, 1, 0), (1, 1, 0)), ((7, 7, 7), (7, 7, 7)), ((35, 0), (0, 35), (35, 35)),
]

SHAPES = [
    ((0, 0),), ((0, 0), (0, 1)), ((0, 0), (1, 0)), ((0, 1), (1, 0)), ((0, 0), (0, 1), (1, 0), (1, 1)), ((0, 39),  (39, 0)),
    ((0, 0), (1, 2), (2, 1)), ((0, 0), (3, 0)), ((0, 0), (0, 4), (6, 2)), ((0, 2), (1, 0), (1, 1), (3, 1)),
    tuple((i, j) for i in range(4) for j in range(4)), tuple((0, j) for j in range(16)),
]


def places(floor):
    return [(r, c) for r in range(len(floor)) for c in range(len(floor[0]))]


def sign_at(floor, r, c):
    while r >= len(floor):
        r -= len(floor)
    while c >= len(floor[0]):
        c -= len(floor[0])
    return floor[r][c]


def seen_at(floor, shape, place):
    return tuple(sign_at(floor, place[0] + i, place[1] + j) for i, j in shape)


def is_plain(told):
    """Whether what is told is tuples, whole numbers, texts, truths and None alone."""
    if type(told) is tuple:
        return all(is_plain(part) for part in told)
    return told is None or type(told) in (int, str, bool)


def refusal(function, *told):
    """The class of the refusal, or None where nothing is refused."""
    try:
        function(*told)
    except FloorError as error:
        return type(error)
    return None


def naive_words(k, n):
    return list(itertools.product(range(k), repeat=n))


def some_rule(k, n, chance):
    """An even rule: behind the kin of each word are put all numbers below k, in any order."""
    orders = [chance.sample(range(k), k) for low in range(k ** (n - 1))]
    return tuple(orders[low][first] for first in range(k) for low in range(k ** (n - 1)))


def some_shape(chance, high, wide, most):
    cells = chance.sample([(i, j) for i in range(high) for j in range(wide)], chance.randint(1, most))
    up, left = min(i for i, j in cells), min(j for i, j in cells)
    return tuple(sorted((i - up, j - left) for i, j in cells))


def some_row(chance, most, many, n):
    """A row of numbers below most whose words of n are unlike."""
    row = tuple(chance.randrange(most) for number in range(many))
    while row_twins(row, n) is not None:
        row = tuple(chance.randrange(most) for number in range(many))
    return row


def some_rows(chance, a, b):
    """A base and steps that go round, as a shape that leans by a and b asks for them."""
    base = some_row(chance, 3, chance.randint(1, {1: 3, 2: 6, 3: 9}[a]), a)
    n = len(base)
    if b == 1:
        return base, (0,)
    steps = some_row(chance, n, chance.randint(1, min(n, 5)), b - 1)
    while sum(steps) % n:
        steps = some_row(chance, n, chance.randint(1, min(n, 5)), b - 1)
    return base, steps


def some_laid(chance, many):
    """So many times a base and steps that go round, and a shape that leans as they ask: (base, steps, a, b, shape)."""
    told = []
    while len(told) < many:
        a, b = chance.randint(1, 3), chance.randint(1, 3)
        shape = some_shape(chance, 5, 5, 16)
        if leans(shape, a, b) is not None:
            told.append((*some_rows(chance, a, b), a, b, shape))
    return told


def some_floor(chance, most, k):
    """A floor of signs below k, of at most so many rows and columns."""
    high, wide = chance.randint(1, most), chance.randint(1, most)
    return tuple(tuple(chance.randrange(k) for c in range(wide)) for r in range(high))


def some_whole(chance, shape, k):
    """A floor of signs below k that is whole for the shape."""
    floor = some_floor(chance, 4, k)
    while len({seen_at(floor, shape, place) for place in places(floor)}) < len(places(floor)):
        floor = some_floor(chance, 4, k)
    return floor


def all_states(machine):
    return list(itertools.product(range(machine[0]), repeat=len(machine[1])))


def coprime_sizes(many):
    """All (high, wide) to which a row of so many signs can be folded."""
    return [(high, many // high) for high in range(1, many + 1) if many % high == 0 and math.gcd(high, many // high) == 1]


def holes_of(torn):
    return [(r, c) for r, c in places(torn) if torn[r][c] is None]


def with_told(torn, told):
    """The torn floor with the signs that are told for some places."""
    return tuple(tuple(told.get((r, c), sign) for c, sign in enumerate(row)) for r, row in enumerate(torn))


def all_filled(torn, k):
    """All floors with signs below k in the place of each None."""
    holes = holes_of(torn)
    for signs in itertools.product(range(k), repeat=len(holes)):
        yield with_told(torn, dict(zip(holes, signs)))


def is_naively_whole(floor, shape):
    return len({seen_at(floor, shape, place) for place in places(floor)}) == len(places(floor))


def is_naively_right(torn, k, shape, tree):
    """Whether the tree is right, where it is built of the right kinds of values."""
    if tree[0] == "twins":
        name, one, other = tree
        signs = seen_at(torn, shape, one)
        return one < other and None not in signs and signs == seen_at(torn, shape, other)
    name, place, trees = tree
    if place not in holes_of(torn) or len(trees) != k:
        return False
    return all(is_naively_right(with_told(torn, {place: sign}), k, shape, trees[sign]) for sign in range(k))


def some_torn(chance, most, k, most_holes):
    """A torn floor of at most so many rows and columns, told signs below k, with at most so many None."""
    floor = some_floor(chance, most, k)
    spots = places(floor)
    holes = chance.sample(spots, chance.randint(0, min(most_holes, len(spots))))
    return with_told(floor, {place: None for place in holes})


# Small torn floors, with the k and the shape for which they are filled: of some there is a floor, of others a tree.
TORN_CASES = [
    (((0,),), 2, ((0, 0),)), (((None,),), 2, ((0, 0),)), (((None,),), 36, ((0, 0), (0, 1), (2, 2))),
    (((0, 1),), 2, ((0, 0),)), (((0, 0),), 2, ((0, 0),)), (((0, None),), 2, ((0, 0),)), (((None, None),), 2, ((0, 0),)),
    (((0, None, 0),), 2, ((0, 0),)), (((None, None, None),), 2, ((0, 0),)), (((None, None, None),), 3, ((0, 0),)),
    (((None, 0), (1, 2)), 3, ((0, 0),)), (((None, 0), (1, 2)), 4, ((0, 0),)), (((1, None), (None, 1)), 3, ((0, 0), (0, 1))),
    (((0, 0, None, None),), 2, ((0, 0), (0, 1))), (((0, None, 0, None),), 2, ((0, 0), (0, 1))),
    (((None,) * 4,), 2, ((0, 0), (0, 1))), (((None,) * 5,), 2, ((0, 0), (0, 1))), (((None,), (0,), (None,)), 2, ((0, 0),)),
    (((0, 0, None), (None, 0, 0), (1, None, None)), 2, ((0, 0), (0, 1), (1, 0))),
    (((0, None), (None, 0)), 3, ((0, 1), (1, 0))), (((0, 0), (0, None)), 2, ((0, 0), (0, 1), (1, 0), (1, 1))),
    (((5, None, 5, None),), 6, ((0, 0), (0, 2))), (((0, 1, 0, None),), 9, ((0, 0), (0, 39))),
]

"""What several tests need: things of any kind, floors, shapes, and all that is told."""


class Odd:
    """An object that is no plain value."""


def nested(deep, inner):
    for step in range(deep):
        inner = (inner,)
    return inner


# None of these is a floor, a place, a shape, a move, a round row or a rule for k and n above 1.
STRANGE_THINGS = [
    None, True, False, 0, 1, -1, 35, 10 ** 6, -10 ** 6, "", "a", "shift", "cross", "0,0", "\n", b"", b"\x00",
    (), [], {}, set(), frozenset(), Odd(), Odd, len, range(3), {"a": 1}, {0: (0, 0)}, {(0, 0)},
    (None,), (True,), (False,), ("",), ("0",), ((),), ([],), ({},), (set(),), (Odd(),), (len,), ((), ()), ([], []),
    [0], [0, 0], [[0]], [(0, 0)], [(0,), (0,)], [((0, 0),)], ["cross"], ["shift", 0, 0], [0, 1, 0, 1],
    (None, None), (0, None), (None, 0), (0, True), (False, 0), (False, False), (True, True), ("0", "0"), "00", (b"0", 0),
    ([0],), ([0, 0],), ((None,),), ((True,),), ((False,),), (("0",),), ((0,), [0]), ((0,), None), ((0,), 0), (0, (0,)),
    ((0, 0), [0, 1]), ((0, 0), None), ((0, 0), 5), ((0, True), (0, False)), (((0, 0),), ((0, False),)), ((0, "0"),),
    ("shift",), ("shift", 1), ("shift", 1, 2, 3), ("shift", True, 0), ("shift", 0, False), ("shift", "1", 0),
    ("shift", None, None), ("shift", (1, 2)), ("shift", [1], 2), ("Shift", 1, 2), (b"shift", 1, 2), (("shift",), 1, 2),
    ("cross", 1), ("cross", ()), ("cross", None), ("flip", 0, 0), ("flip", "flip"), ("flips",), ("signs",), ("turn",),
    ("signs", ()), ("signs", (1,)), ("signs", (0, 0)), ("signs", (0, 2)), ("signs", (-1, 0)), ("signs", (False,)),
    ("signs", (True, 0)), ("signs", [0]), ("signs", 0), ("signs", "0"), ("signs", (0,), (0,)), ("signs", 0, 1),
    ("signs", ((0,),)), ("signs", ([],)), ("signs", (None,)), ("signs", {0: 0}), ("signs", (set(), 0)), (set(), 0),
    nested(30, 0), nested(29, ()), nested(28, "a"), nested(20, None), nested(15, True), [nested(20, 0)], [[[[[]]]]],
    (nested(29, 0), nested(29, 0)), (0, nested(29, 0)), ("signs", nested(28, 0)), ("shift", nested(28, 1), 0),
]

FLOORS = [
    ((0,),), ((35,),), ((0, 1),), ((1,), (0,)), ((0, 0), (0, 0)), ((0, 1), (2, 3)), ((0, 1, 1), (1, 0, 2)),
    ((2, 2, 2, 1),), ((4,), (4,), (5,), (4,), (5,)), ((0, 1, 0, 1), (1, 0, 1, 0)), ((0, 0, 1, 0), (1, 1, 1, 0), (0, 2, 1, 2)),
    ((0, 1, 0), (1, 1, 0), (0, 1, 0), (1, 1, 0)), ((7, 7, 7), (7, 7, 7)), ((35, 0), (0, 35), (35, 35)),
]

SHAPES = [
    ((0, 0),), ((0, 0), (0, 1)), ((0, 0), (1, 0)), ((0, 1), (1, 0)), ((0, 0), (0, 1), (1, 0), (1, 1)), ((0, 39),  (39, 0)),
    ((0, 0), (1, 2), (2, 1)), ((0, 0), (3, 0)), ((0, 0), (0, 4), (6, 2)), ((0, 2), (1, 0), (1, 1), (3, 1)),
    tuple((i, j) for i in range(4) for j in range(4)), tuple((0, j) for j in range(16)),
]


def places(floor):
    return [(r, c) for r in range(len(floor)) for c in range(len(floor[0]))]


def sign_at(floor, r, c):
    while r >= len(floor):
        r -= len(floor)
    while c >= len(floor[0]):
        c -= len(floor[0])
    return floor[r][c]


def seen_at(floor, shape, place):
    return tuple(sign_at(floor, place[0] + i, place[1] + j) for i, j in shape)


def is_plain(told):
    """Whether what is told is tuples, whole numbers, texts, truths and None alone."""
    if type(told) is tuple:
        return all(is_plain(part) for part in told)
    return told is None or type(told) in (int, str, bool)

"""Point 34: a desk."""

import itertools
import math
import random
import unittest

from tests.helpers import FLOORS, SHAPES, STRANGE_THINGS, TORN_CASES, places, refusal, some_floor, some_shape
from windowfloor.bars import barred, most_places
from windowfloor.desk import Desk
from windowfloor.errors import FloorError, NoLine, NotRound, NoText, NoWay, TooGreat
from windowfloor.filling import filled
from windowfloor.folding import folded
from windowfloor.laying import full_floor, laid
from windowfloor.machines import machine_row
from windowfloor.moves import moved_floor
from windowfloor.pairing import paired
from windowfloor.shapes import box
from windowfloor.shifts import beside, kept_by, least_of
from windowfloor.showing import show_floor, show_row, show_seen, show_shape, show_torn
from windowfloor.tearing import bears, nearest
from windowfloor.windows import places_of, twins, window

# Lines of each form that a desk with the floor of START answers.
START = "0012/1102/2210"
GOOD_LINES = [
    "shift 0 0", "shift 1 2", "shift -1 999999", "shift -999999 -1", "cross", "flip", "signs 2,0,1", "signs 3,2,1,0",
    "beside 1 1", "beside 2 3", "lay 0,1,2 1,2", "full 2 1 3", "pair 3 012/210", "fold 2 1,1,0 1 7", "show", "size", "whole #",
    "whole ##/##", "where 0", "where ?1/1?", "near 00/1?", "bears ##/##", "keeps", "least", "bar 2 2 2 4 4", "fill 2 # 0?",
]
DEED_WORDS = ("shift", "cross", "flip", "signs", "beside", "lay", "full", "pair", "fold")
WORDS = DEED_WORDS + ("back", "show", "size", "whole", "where", "near", "bears", "keeps", "least", "bar", "fill")


def answer(desk, line):
    """What the desk answers, or the class of its refusal."""
    try:
        return desk.say(line)
    except FloorError as error:
        return type(error)


def told(spots):
    return " ".join(f"{r},{c}" for r, c in spots) or "-"


def row_of(sign, high, wide):
    return "/".join([sign * wide] * high)


class Start(unittest.TestCase):
    def test_keeps_the_floor(self):
        for floor in FLOORS + [tuple((r,) for r in range(36)), ((7,) * 600,)]:
            self.assertEqual(Desk(show_floor(floor)).say("show"), show_floor(floor))

    def test_refused(self):
        for text in ("", "A", "0/", "00/0", "?", "0?", "0 ", "0\n", "#", "0" * 601, row_of("0", 25, 25), " ", "show it"):
            self.assertIs(refusal(Desk, text), NoText, text)


class Deeds(unittest.TestCase):
    def check(self, start, line, wanted):
        desk = Desk(show_floor(start))
        self.assertEqual(answer(desk, line), "done", (start, line))
        self.assertEqual(desk.say("show"), show_floor(wanted), (start, line))
        self.assertEqual(desk.say("back"), "done")
        self.assertEqual(desk.say("show"), show_floor(start), (start, line))

    def check_refused(self, start, line, error):
        desk = Desk(start)
        self.assertIs(answer(desk, line), error, (start, line))
        self.assertEqual(desk.say("show"), start)
        self.assertEqual(desk.say("back"), "nothing")

    def test_moves(self):
        for floor in FLOORS:
            for i, j in ((0, 0), (1, 0), (0, 1), (-1, 2), (999999, -999999), (5, -7)):
                self.check(floor, f"shift {i} {j}", moved_floor(("shift", i, j), floor))
            self.check(floor, "cross", moved_floor(("cross",), floor))
            self.check(floor, "flip", moved_floor(("flip",), floor))

    def test_by_hand(self):
        self.check(((0, 1, 2), (3, 4, 5)), "shift 1 1", ((4, 5, 3), (1, 2, 0)))
        self.check(((0, 1, 2), (3, 4, 5)), "shift 0 -1", ((2, 0, 1), (5, 3, 4)))
        self.check(((0, 1, 2), (3, 4, 5)), "cross", ((0, 3), (1, 4), (2, 5)))
        self.check(((0, 1, 2), (3, 4, 5)), "flip", ((3, 4, 5), (0, 1, 2)))
        self.check(((0, 1),), "signs 1,0", ((1, 0),))
        self.check(((0, 1),), "beside 2 2", ((0, 1, 0, 1), (0, 1, 0, 1)))
        self.check(((0, 1),), "lay 0,0,1,2 3,3,2", ((0, 2, 1), (0, 0, 2), (1, 0, 0), (2, 1, 0)))
        self.check(((0, 1),), "full 3 1 2", ((0, 0, 1), (1, 1, 2), (2, 2, 0)))
        self.check(((0, 1),), "pair 3 012", ((0, 4, 2, 3, 1, 5),))
        self.check(((0, 1),), "fold 2 1,1,0 1 7", ((0, 0, 1, 0, 1, 1, 1),))
        self.check(((0, 1),), "fold 7 3 2 3", ((1, 4, 2), (6, 3, 5)))

    def test_numbers_of_i_and_j(self):
        for word in ("-0", "00", "01", "-01", "--1", "+1", "1-", "-", "", "1000000", "-1000000", "0000000", "1.0", "a", "1,0", "?"):
            self.check_refused("01", f"shift {word} 0", NoLine)
            self.check_refused("01", f"shift 0 {word}", NoLine)
        for word in ("0", "1", "-1", "999999", "-999999", "10", "-10"):
            self.assertEqual(Desk("01").say(f"shift {word} {word}"), "done")

    def test_signs(self):
        for floor in FLOORS:
            order = tuple(range(36))[::-1]
            self.check(floor, f"signs {show_row(order)}", moved_floor(("signs", order), floor))
        self.check(((0, 2),), "signs 1,2,0", ((1, 0),))
        # Just longer than each sign.
        self.check(((0, 1),), "signs 1,0", ((1, 0),))
        for line in (
            "signs 0", "signs 1", "signs 0,0", "signs 1,1", "signs 0,2", "signs 0,1,1", "signs 0,1,3", "signs 1,0,", "signs ,1,0",
            "signs 1;0", "signs 10", "signs -1,0", "signs 01,0", "signs", "signs 1,0 1,0", "signs 1, 0", "signs " + show_row(range(37)),
            "signs a,b",
        ):
            self.check_refused("01", line, NoLine)
        self.check_refused("02", "signs 1,0", NoLine)
        self.check_refused("0z", "signs " + show_row(range(35)), NoLine)

    def test_beside(self):
        for floor in FLOORS:
            for down, right in ((1, 1), (2, 1), (1, 3), (3, 2)):
                self.check(floor, f"beside {down} {right}", beside(floor, down, right))
        self.check(((0, 1),), "beside 300 1", beside(((0, 1),), 300, 1))
        self.check_refused("01", "beside 301 1", TooGreat)
        self.check_refused("01", "beside 1 301", TooGreat)
        self.check_refused("01", "beside 999999 999999", TooGreat)
        for line in (
            "beside 0 1", "beside 1 0", "beside 0 0", "beside -1 1", "beside 1 -1", "beside 1", "beside 1 1 1", "beside 01 1",
            "beside 1000000 1", "beside a 1", "beside 1,1", "beside 0 999999",
        ):
            self.check_refused("01", line, NoLine)

    def test_lay(self):
        for base, steps in (((0,), (0,)), ((0, 0, 1, 2), (3, 3, 2)), ((35, 0), (1, 1)), ((0, 1, 2), (0,)), ((0,), (0,) * 600)):
            self.check(((0, 1),), f"lay {show_row(base)} {show_row(steps)}", laid(base, steps))
        self.check_refused("01", "lay 0,1,2 1", NotRound)
        self.check_refused("01", "lay 0,1 0" + ",0" * 300, TooGreat)
        self.check_refused("01", "lay 0,1 1" + ",0" * 300, NotRound)
        for line in (
            "lay 0,1 2,0", "lay 36 0", "lay 0,36 1,1", "lay 0,600 1,1", "lay 0 1", "lay 0,1", "lay", "lay 0,1 1,1 0", "lay 0,1 1,1,",
            "lay 0,01 1,1", "lay 01 11", "lay a 0", "lay 0 -0", "lay 0,1 -1,1", "lay 0,1  1,1", "lay 36 1",
        ):
            self.check_refused("01", line, NoLine)

    def test_full(self):
        for k, a, b in ((1, 1, 1), (1, 4, 4), (2, 1, 3), (3, 1, 2), (2, 9, 1), (36, 1, 1), (2, 2, 3), (24, 2, 1), (1, 16, 1)):
            self.check(((0, 1),), f"full {k} {a} {b}", full_floor(k, a, b))
        for line in ("full 2 10 1", "full 2 4 4", "full 36 2 1", "full 25 1 2", "full 36 4 4", "full 26 1 2"):
            self.check_refused("01", line, TooGreat)
        for line in ("full 2 1 2", "full 2 2 2", "full 4 1 2", "full 24 1 2"):
            self.check_refused("01", line, NoWay)
        for line in (
            "full 0 1 1", "full 37 1 1", "full 2 0 1", "full 2 1 0", "full 2 17 1", "full 2 1 17", "full 1 17 1", "full 2 3 6",
            "full 2 5 4", "full 1 5 4", "full 2 1", "full 2 1 1 1", "full -2 1 1", "full 02 1 1", "full 2 1 1000000", "full 2 1,1",
            "full 999999 999999 999999", "full 37 1 2",
        ):
            self.check_refused("01", line, NoLine)

    def test_pair(self):
        for one, other, k in (
            (((0, 1),), ((0, 1, 2),), 3), (((0, 1),), ((0,),), 1), (((0, 0), (1, 1)), ((1,),), 2), (((0, 1),), ((17,),), 18),
            (((0,),), ((35,),), 36), (((5, 3),), ((0, 5), (2, 2), (1, 4)), 6),
        ):
            self.check(one, f"pair {k} {show_floor(other)}", paired(one, other, k))
        self.check_refused("0z", "pair 2 0", TooGreat)
        self.check_refused("01", "pair 36 0", TooGreat)
        self.check_refused("0" * 24, "pair 2 " + row_of("0", 1, 25) + "/" + row_of("0", 1, 25), TooGreat)
        self.check_refused("0" * 25, "pair 2 " + "0" * 26, TooGreat)
        self.check_refused("0" * 24, "pair 1 " + row_of("0", 26, 1), TooGreat)
        for line in (
            "pair 0 0", "pair 37 0", "pair 2 2", "pair 1 1", "pair 10 a", "pair 35 z", "pair 2 012", "pair 2", "pair 2 0 0",
            "pair 2 A", "pair 2 ?", "pair 2 0/", "pair 2 00/0", "pair -2 0", "pair 02 0", "pair 0 2", "pair 01 0", "pair 2 0?",
        ):
            self.check_refused("01", line, NoLine)
        # Ahead of what would be too great: signs that aren't below k.
        self.check_refused("zz", "pair 2 2", NoLine)

    def test_pair_is_of_the_kept_one_and_this(self):
        self.check(((0, 1),), "pair 5 4", ((4, 9),))
        self.check(((3,),), "pair 2 01", ((6, 7),))

    def test_fold(self):
        for k, taps in ((2, (1,)), (2, (1, 1)), (2, (1, 1, 0)), (2, (1, 1, 1)), (3, (2,)), (3, (1, 1)), (5, (2, 3)), (7, (3,)), (7, (4, 0, 2))):
            row = machine_row((k, taps), (0,) * (len(taps) - 1) + (1,))
            for high in range(1, len(row) + 1):
                if len(row) % high == 0:
                    wide = len(row) // high
                    line = f"fold {k} {show_row(taps)} {high} {wide}"
                    if math.gcd(high, wide) == 1:
                        self.check(((0, 1),), line, folded(row, high, wide))
                    else:
                        self.check_refused("01", line, NoWay)
                    self.check_refused("01", f"fold {k} {show_row(taps)} {high + 1} {wide}", NoWay)
        self.check(((0,),), "fold 2 1,0,0,0,1,0,0,0,0 7 73", folded(machine_row((2, (1, 0, 0, 0, 1, 0, 0, 0, 0)), (0,) * 8 + (1,)), 7, 73))
        self.check_refused("01", "fold 2 1,1 999999 999999", NoWay)
        for line in (
            "fold 4 1,1 1 3", "fold 1 1 1 1", "fold 0 1 1 1", "fold 11 1 1 1", "fold 2 0,1 1 3", "fold 2 2,1 1 3", "fold 2 1,2 1 3",
            "fold 2 1,1 0 3", "fold 2 1,1 1 0", "fold 2 1,1 -1 3", "fold 2 1,1 3", "fold 2 1,1 1 3 1", "fold 2 1,1, 1 3", "fold 2 11 1 3",
            "fold 2 1,1 1 03", "fold 2 1,1 1 1000000", "fold 2 " + "1," * 9 + "1 1 3", "fold 7 1,1,1,1 1 3", "fold 2 1,a 1 3",
            "fold 2 - 1 3", "fold 3 3 1 2",
        ):
            self.check_refused("01", line, NoLine)


class Back(unittest.TestCase):
    def test_behind_none(self):
        desk = Desk("01")
        for count in range(3):
            self.assertEqual(desk.say("back"), "nothing")
            self.assertEqual(desk.say("show"), "01")

    def test_behind_several_deeds(self):
        desk = Desk("012/345")
        shown = [desk.say("show")]
        for line in ("shift 1 1", "cross", "flip", "signs 5,4,3,2,1,0", "beside 2 2", "pair 2 01", "full 3 1 2", "lay 0,1 1,1"):
            self.assertEqual(desk.say(line), "done")
            shown.append(desk.say("show"))
        for wanted in shown[-2::-1]:
            self.assertEqual(desk.say("back"), "done")
            self.assertEqual(desk.say("show"), wanted)
        self.assertEqual(desk.say("back"), "nothing")
        self.assertEqual(desk.say("show"), "012/345")

    def test_behind_deeds_that_change_nothing(self):
        desk = Desk("01")
        desk.say("shift 1 1")
        for line in ("shift 0 0", "flip", "beside 1 1"):
            self.assertEqual(desk.say(line), "done")
        for wanted in ("10", "10", "10", "01"):
            self.assertEqual(desk.say("back"), "done")
            self.assertEqual(desk.say("show"), wanted)

    def test_behind_refused_ones_and_questions(self):
        desk = Desk("01")
        desk.say("cross")
        for line in ("beside 0 1", "beside 999 999", "what", "full 2 1 2", "lay 0,1,2 1", "back 1", "shift 1"):
            self.assertNotEqual(answer(desk, line), "done")
        for line in ("show", "size", "keeps"):
            desk.say(line)
        self.assertEqual(desk.say("back"), "done")
        self.assertEqual(desk.say("show"), "01")
        self.assertEqual(desk.say("back"), "nothing")

    def test_deeds_behind_back(self):
        desk = Desk("012")
        for line in ("shift 0 1", "back", "cross", "flip", "back", "shift 1 0"):
            self.assertEqual(desk.say(line), "done")
        self.assertEqual(desk.say("show"), "1/2/0")
        for wanted in ("0/1/2", "012"):
            self.assertEqual(desk.say("back"), "done")
            self.assertEqual(desk.say("show"), wanted)
        self.assertEqual(desk.say("back"), "nothing")

    def test_many_deeds(self):
        desk = Desk("012")
        for count in range(500):
            desk.say("shift 0 1")
        for count in range(500):
            self.assertEqual(desk.say("back"), "done")
        self.assertEqual((desk.say("show"), desk.say("back")), ("012", "nothing"))


class Questions(unittest.TestCase):
    def test_by_hand(self):
        desk = Desk("0001/0010/1011/0111")
        for line, wanted in (
            ("show", "0001/0010/1011/0111"), ("size", "4 4"), ("whole ##/##", "whole"), ("whole #", "0,0 0,1"),
            ("where 10/11", "1,2"), ("where 10/1?", "1,2 3,3"), ("where 22/22", "-"), ("where 2", "-"), ("near 10/11", "0 1,2"),
            ("near 2", "1 " + told(places(((0,) * 4,) * 4))), ("bears ##/##", "0"), ("bears #", "-1"), ("keeps", "0,0"),
            ("least", "0001/0010/1011/0111"), ("bar 2 2 2 4 4", "open 16"), ("bar 2 2 2 5 4", "barred 16"),
            ("fill 2 # 0?", "01"), ("fill 2 # 0??", "none"), ("bar 36 4 4 600 600", f"open {36 ** 16}"), ("bar 1 2 1 2 3", "barred 0"),
        ):
            self.assertEqual(desk.say(line), wanted, line)
        self.assertEqual(desk.say("back"), "nothing")

    def test_as_the_functions_tell(self):
        chance = random.Random(34)
        for floor in FLOORS + [some_floor(chance, 8, 3) for count in range(20)]:
            desk = Desk(show_floor(floor))
            self.assertEqual(desk.say("size"), f"{len(floor)} {len(floor[0])}")
            self.assertEqual(desk.say("keeps"), told(kept_by(floor)))
            self.assertEqual(desk.say("least"), show_floor(least_of(floor)[0]))
            for shape in SHAPES + [some_shape(chance, 4, 4, 9) for count in range(5)]:
                pair = twins(floor, shape)
                self.assertEqual(desk.say(f"whole {show_shape(shape)}"), "whole" if pair is None else told(pair))
                many = "any" if len(places(floor)) == 1 else str(bears(floor, shape))
                self.assertEqual(desk.say(f"bears {show_shape(shape)}"), many)
                for seen in self.some_seen(chance, floor, shape):
                    text = show_seen(shape, seen)
                    self.assertEqual(desk.say(f"where {text}"), told(places_of(floor, shape, seen)))
                    if len(places(floor)) > 1:
                        wrong, found = nearest(floor, shape, seen)
                        self.assertEqual(desk.say(f"near {text}"), f"{wrong} {told(found)}")
            self.assertEqual(desk.say("show"), show_floor(floor))

    def some_seen(self, chance, floor, shape):
        seen = window(floor, shape, chance.choice(places(floor)))
        torn = tuple(chance.choice((None, sign)) for sign in seen)
        wrong = tuple(chance.choice((None, sign, 35 - sign)) for sign in seen)
        return seen, torn, wrong, (None,) * len(shape)

    def test_torn_cells(self):
        desk = Desk("0123")
        self.assertEqual(desk.say("where ?"), "0,0 0,1 0,2 0,3")
        self.assertEqual(desk.say("where ?2"), "0,1")
        self.assertEqual(desk.say("where 1?"), "0,1")
        self.assertEqual(desk.say("where 1?5"), "-")
        self.assertEqual(desk.say("near 1?5"), "1 0,1")
        self.assertEqual(desk.say("near ??"), "0 0,0 0,1 0,2 0,3")
        self.assertEqual(desk.say("near ?z"), "1 0,0 0,1 0,2 0,3")
        self.assertEqual(desk.say("where .1/0."), "0,0")
        self.assertEqual(desk.say("where .1/?."), "0,0")
        self.assertEqual(desk.say("where 1/?/1"), "0,1")

    def test_one_place(self):
        desk = Desk("7")
        self.assertEqual(desk.say("bears #"), "any")
        self.assertEqual(desk.say("bears ####/####/####/####"), "any")
        self.assertEqual(desk.say("whole #"), "whole")
        self.assertEqual(desk.say("where 7/7"), "0,0")
        self.assertEqual(desk.say("where 7/8"), "-")
        self.assertEqual(desk.say("keeps"), "0,0")
        self.assertEqual(desk.say("least"), "7")
        # Nearness is told of floors of two places and more.
        self.assertIs(answer(desk, "near 7"), NoLine)
        self.assertIs(answer(desk, "bears"), NoLine)
        self.assertIs(answer(desk, "bears ."), NoLine)

    def test_64_and_65_places(self):
        desk = Desk(row_of("0", 8, 8))
        self.assertEqual(desk.say("bears #"), "-1")
        self.assertEqual(desk.say("near 0")[:8], "0 0,0 0,")
        for text in (row_of("0", 5, 13), row_of("0", 1, 65), "0" * 600):
            desk = Desk(text)
            self.assertIs(answer(desk, "bears #"), NoLine)
            self.assertIs(answer(desk, "near 0"), NoLine)
            self.assertEqual(desk.say("whole #"), "0,0 0,1")
            self.assertEqual(desk.say("where 1"), "-")

    def test_100_and_101_places(self):
        desk = Desk(row_of("0", 10, 10))
        self.assertEqual(desk.say("keeps"), told(itertools.product(range(10), repeat=2)))
        self.assertEqual(desk.say("least"), row_of("0", 10, 10))
        for text in ("0" * 101, row_of("0", 101, 1), row_of("0", 6, 17), "0" * 600):
            desk = Desk(text)
            self.assertIs(answer(desk, "keeps"), NoLine)
            self.assertIs(answer(desk, "least"), NoLine)

    def test_shapes_and_seen_refused(self):
        desk = Desk("0123")
        for word in ("0", "?", ".", "#.", ".#", "#/", "##/#", "#" * 17, "#" + "." * 39 + "#", "", "#,#", "A", "-", "#\n"):
            for line in (f"whole {word}", f"bears {word}", f"fill 2 {word} 0?"):
                self.assertIs(answer(desk, line), NoLine, line)
        for word in ("#", ".", "0.", ".0", "0/", "00/0", "0" * 17, "0" + "." * 39 + "0", "", "0,0", "A", "-", "0\n", "00 0"):
            for line in (f"where {word}", f"near {word}"):
                self.assertIs(answer(desk, line), NoLine, line)

    def test_bar(self):
        desk = Desk("0")
        for k, a, b in itertools.product((1, 2, 3, 36), (1, 2, 4, 16), (1, 3, 4)):
            for high, wide in itertools.product((1, 2, 4, 17, 600), (1, 3, 4, 600)):
                line = f"bar {k} {a} {b} {high} {wide}"
                if a * b > 16:
                    self.assertIs(answer(desk, line), NoLine, line)
                else:
                    word = "barred" if barred(k, a, b, high, wide) else "open"
                    self.assertEqual(desk.say(line), f"{word} {most_places(k, a, b, high, wide)}")
        for line in (
            "bar 0 1 1 1 1", "bar 37 1 1 1 1", "bar 2 0 1 1 1", "bar 2 1 0 1 1", "bar 2 1 1 0 1", "bar 2 1 1 1 0", "bar 2 1 1 601 1",
            "bar 2 1 1 1 601", "bar 2 17 1 1 1", "bar 2 1 1 1", "bar 2 1 1 1 1 1", "bar -2 1 1 1 1", "bar 2 1 1 1 01", "bar",
            "bar 2 1 1 1 1000000", "bar 2 1 1 1,1", "bar 2 1 1 1 a",
        ):
            self.assertIs(answer(desk, line), NoLine, line)

    def test_fill(self):
        desk = Desk("0")
        for torn, k, shape in TORN_CASES:
            sort, floor = filled(torn, k, shape)
            wanted = show_floor(floor) if sort == "floor" else "none"
            self.assertEqual(desk.say(f"fill {k} {show_shape(shape)} {show_torn(torn)}"), wanted)
        for line, wanted in (
            ("fill 36 # z?", "z0"), ("fill 2 # 01", "01"), ("fill 2 # 00", "none"), ("fill 2 # " + "0" * 40, "none"),
            ("fill 2 # ?" + "0" * 39, "none"),
        ):
            self.assertEqual(desk.say(line), wanted, line)
        for line in ("fill 2 # " + "?" * 9, "fill 18 # ??", "fill 36 # ??", "fill 2 # 00" + "?" * 9, "fill 2 # " + "?" * 40):
            self.assertIs(answer(desk, line), TooGreat, line)
        for line in (
            "fill 0 # 0", "fill 1 # 0", "fill 37 # 0", "fill 2 # 2", "fill 2 # 0?2", "fill 10 # a?", "fill 2 # " + "0" * 41,
            "fill 2 # " + "?" * 41, "fill 2 #", "fill 2 # 0 0", "fill # 0", "fill 2 # A", "fill 2 # #", "fill 2 # 0/", "fill 02 # 0",
            "fill -2 # 0", "fill 2 # ", "fill 2 0 #", "fill 2 # -", "fill 1 # " + "?" * 9, "fill 36 # " + row_of("?", 7, 6),
        ):
            self.assertIs(answer(desk, line), NoLine, line)


class Lines(unittest.TestCase):
    def test_good_lines(self):
        for line in GOOD_LINES:
            self.assertIsInstance(answer(Desk(START), line), str, line)

    def test_blanks_and_line_feeds(self):
        for line in GOOD_LINES + ["back"]:
            others = [line + " ", " " + line, line + "\n", "\n" + line, line + "  ", line.upper(), line.capitalize(), line + "."]
            others += [line.replace(" ", between) for between in ("  ", "\n", ",", "   ", " \n") if " " in line]
            for other in others:
                desk = Desk(START)
                self.assertIs(answer(desk, other), NoLine, repr(other))
                self.assertEqual(desk.say("show"), START)
                self.assertEqual(desk.say("back"), "nothing")

    def test_words_too_many_and_too_few(self):
        for line in GOOD_LINES + ["back"]:
            words = line.split(" ")
            others = [" ".join(words[:-1]), " ".join(words[1:]), f"{line} 0", f"{line} 1 1", f"{line} {line}", f"0 {line}"]
            for other in others:
                self.assertIs(answer(Desk(START), other), NoLine, repr(other))

    def test_unknown_words(self):
        for line in ("", " ", "  ", "\n", "what", "Show", "shows", "sho", "undo", "0", "01", "done", "nothing", "turn 1", "lead 01", "-"):
            self.assertIs(answer(Desk(START), line), NoLine, repr(line))

    def test_each_word_alone(self):
        alone = ("cross", "flip", "back", "show", "size", "keeps", "least")
        for word in WORDS:
            for many in range(8):
                line = " ".join([word] + ["X"] * many)
                told_now = answer(Desk(START), line)
                self.assertEqual(told_now is NoLine, many > 0 or word not in alone, line)

    def test_numbers_of_six_and_of_seven_figures(self):
        for line, wanted in (
            ("shift 999999 -999999", "done"), ("shift 1000000 0", NoLine), ("shift 0 -1000000", NoLine), ("beside 999999 1", TooGreat),
            ("beside 1000000 1", NoLine), ("fold 2 1,1 999999 1", NoWay), ("fold 2 1,1 1000000 1", NoLine), ("full 100000 1 1", NoLine),
        ):
            self.assertEqual(answer(Desk(START), line), wanted, line)

    def test_a_sign_otherwise(self):
        """Whatever is said, a text is told or one of the refusals, and what is refused changes nothing."""
        chance = random.Random(35)
        signs = [chr(code) for code in range(32, 127)] + ["\n"]
        for line in GOOD_LINES:
            for at in range(len(line) + 1):
                others = [line[:at] + line[at + 1:]]
                for sign in chance.sample(signs, 10) + list(" 0129-,/?#.z"):
                    others += [line[:at] + sign + line[at:], line[:at] + sign + line[at + 1:]]
                for other in others:
                    desk = Desk(START)
                    told_now = answer(desk, other)
                    is_deed = other.split(" ")[0] in DEED_WORDS
                    if isinstance(told_now, str):
                        self.assertEqual(told_now == "done", is_deed, other)
                    else:
                        self.assertIn(told_now, (NoLine, TooGreat, NoWay, NotRound) if is_deed else (NoLine, TooGreat), other)
                    if told_now != "done":
                        self.assertEqual(desk.say("show"), START)
                        self.assertEqual(desk.say("back"), "nothing")

    def test_any_line(self):
        chance = random.Random(36)
        words = list(WORDS) + ["0", "1", "2", "3", "-1", "-0", "00", "7", "600", "1000000", "", "#", "##", "0?", "?", "01", "0,1", "1,1"]
        desk = Desk("01")
        for count in range(5000):
            line = " ".join(chance.choice(words) for word in range(chance.randint(1, 6)))
            before = desk.say("show")
            told_now = answer(desk, line)
            self.assertTrue(isinstance(told_now, str) or told_now in (NoLine, TooGreat, NoWay, NotRound), line)
            if not isinstance(told_now, str):
                self.assertEqual(desk.say("show"), before)

    def test_of_anything(self):
        things = [thing for thing in STRANGE_THINGS if thing not in ("cross", "flip")]
        for thing in things + [["show"], ("show",), b"show", {"show": 1}]:
            desk = Desk(START)
            self.assertIs(answer(desk, thing), NoLine, repr(thing))
            self.assertEqual(desk.say("show"), START)


class Desks(unittest.TestCase):
    def test_two_desks_beside_each_other(self):
        one, other = Desk("012"), Desk("012")
        one.say("cross")
        self.assertEqual((one.say("show"), other.say("show")), ("0/1/2", "012"))
        self.assertEqual(other.say("back"), "nothing")
        other.say("beside 1 2")
        self.assertEqual((one.say("show"), other.say("show")), ("0/1/2", "012012"))
        self.assertEqual(one.say("back"), "done")
        self.assertEqual(one.say("back"), "nothing")
        self.assertEqual((one.say("show"), other.say("show")), ("012", "012012"))

    def test_the_same_is_told_again(self):
        for line in GOOD_LINES:
            desk = Desk(START)
            if line.split(" ")[0] not in DEED_WORDS:
                self.assertEqual(desk.say(line), desk.say(line))

    def test_say_is_defined_in_the_class(self):
        self.assertIn("say", vars(Desk))

    def test_whole_floors_made_at_the_desk(self):
        desk = Desk("0")
        desk.say("full 2 2 3")
        self.assertEqual(desk.say("whole ###/###"), "whole")
        self.assertEqual(desk.say("bears ###/###"), "0")
        self.assertEqual(desk.say("where 000/000"), told(places_of(full_floor(2, 2, 3), box(2, 3), (0,) * 6)))
        desk.say("fold 2 1,1,0,0,0,0 7 9")
        self.assertEqual(desk.say("size"), "7 9")
        self.assertEqual(desk.say("keeps"), "0,0")

"""Point 33: floors, shapes, what is seen and round rows as texts."""

import itertools
import random
import string
import unittest

from tests.helpers import FLOORS, SHAPES, TORN_CASES, is_plain, refusal, some_floor, some_shape, some_torn
from windowfloor.errors import NoText
from windowfloor.floors import is_floor
from windowfloor.reading import read_floor, read_row, read_seen, read_shape, read_torn
from windowfloor.shapes import is_shape
from windowfloor.showing import show_floor, show_row, show_seen, show_shape, show_torn
from windowfloor.words import is_row

SIGNS = string.digits + string.ascii_lowercase
READERS = (read_floor, read_torn, read_shape, read_seen, read_row)
ANY_SIGNS = [chr(code) for code in range(32, 127)] + ["\n"]
READ_AND_SHOWN = (
    (read_floor, show_floor), (read_torn, show_torn), (read_shape, show_shape), (read_row, show_row),
    (read_seen, lambda told: show_seen(*told)),
)


def some_seen(chance, shape):
    return tuple(chance.choice((None, *range(36))) for cell in shape)


def some_texts():
    """(read, text) with texts of each kind that are right."""
    chance = random.Random(33)
    told = [(read_floor, show_floor(floor)) for floor in FLOORS]
    told += [(read_floor, show_floor(some_floor(chance, 6, 36))) for count in range(15)]
    told += [(read_torn, show_torn(case[0])) for case in TORN_CASES]
    told += [(read_torn, show_torn(some_torn(chance, 5, 36, 6))) for count in range(15)]
    shapes = SHAPES + [some_shape(chance, 5, 5, 16) for count in range(10)]
    told += [(read_shape, show_shape(shape)) for shape in shapes if len(show_shape(shape)) < 60]
    told += [(read_seen, show_seen(shape, some_seen(chance, shape))) for shape in shapes if len(show_shape(shape)) < 60]
    told += [(read_row, show_row(row)) for row in ((0,), (599,), (0, 0, 1), (10, 100, 20, 5), tuple(range(12)))]
    return told


def naively_written(read, text):
    """Whether the text writes something of the kind that is read, by its signs one by one."""
    if read == read_row:
        words = text.split(",")
        numbers = [str(number) for number in range(600)]
        return len(words) <= 600 and all(word in numbers for word in words)
    rows = text.split("/")
    wide = len(rows[0])
    if wide == 0 or any(len(row) != wide for row in rows):
        return False
    if read in (read_floor, read_torn):
        allowed = SIGNS + ("?" if read == read_torn else "")
        return len(rows) * wide <= 600 and all(sign in allowed for row in rows for sign in row)
    marks = "#" if read == read_shape else SIGNS + "?"
    if any(sign != "." and sign not in marks for row in rows for sign in row):
        return False
    filled = [(i, j) for i, row in enumerate(rows) for j, sign in enumerate(row) if sign != "."]
    edges = [any(i == 0 for i, j in filled), any(i == len(rows) - 1 for i, j in filled)]
    edges += [any(j == 0 for i, j in filled), any(j == wide - 1 for i, j in filled)]
    return all(edges) and len(filled) <= 16 and len(rows) <= 40 and wide <= 40


class Shown(unittest.TestCase):
    def test_floors(self):
        self.assertEqual(show_floor(((0,),)), "0")
        self.assertEqual(show_floor(((0, 1, 9), (10, 34, 35))), "019/ayz")
        self.assertEqual(show_floor((tuple(range(36)),)), SIGNS)
        self.assertEqual(show_floor(tuple((sign,) for sign in range(36))), "/".join(SIGNS))

    def test_torn_floors(self):
        self.assertEqual(show_torn(((0, None), (None, 35))), "0?/?z")
        self.assertEqual(show_torn(((None,),)), "?")
        self.assertEqual(show_torn(((1, 2),)), "12")

    def test_shapes(self):
        self.assertEqual(show_shape(((0, 0),)), "#")
        self.assertEqual(show_shape(((0, 0), (0, 1), (1, 0), (1, 1))), "##/##")
        self.assertEqual(show_shape(((0, 1), (1, 0))), ".#/#.")
        self.assertEqual(show_shape(((0, 2), (1, 0), (1, 1), (3, 1))), "..#/##./.../.#.")
        self.assertEqual(show_shape(((0, 0), (0, 39))), "#" + "." * 38 + "#")
        self.assertEqual(show_shape(((0, 0), (39, 0))), "#/" + "./" * 38 + "#")

    def test_what_is_seen(self):
        self.assertEqual(show_seen(((0, 0),), (35,)), "z")
        self.assertEqual(show_seen(((0, 0),), (None,)), "?")
        self.assertEqual(show_seen(((0, 1), (1, 0)), (1, None)), ".1/?.")
        self.assertEqual(show_seen(((0, 2), (1, 0), (1, 1), (3, 1)), (1, 2, 3, 10)), "..1/23./.../.a.")

    def test_rows(self):
        self.assertEqual(show_row((0,)), "0")
        self.assertEqual(show_row((0, 10, 599, 7)), "0,10,599,7")

    def test_no_cells_raise_nothing(self):
        self.assertEqual((show_shape(()), show_seen((), ())), ("", ""))

    def test_signs_beyond_the_bounds_raise_nothing(self):
        for sign in (36, 100, -1):
            self.assertIs(refusal(read_floor, show_floor(((0, sign),))), NoText)
            self.assertIs(refusal(read_torn, show_torn(((None, sign),))), NoText)
            self.assertIs(refusal(read_seen, show_seen(((0, 0),), (sign,))), NoText)


class ReadAsItWas(unittest.TestCase):
    def test_floors(self):
        chance = random.Random(34)
        for floor in FLOORS + [some_floor(chance, 24, 36) for count in range(50)]:
            self.assertEqual(read_floor(show_floor(floor)), floor)
            self.assertEqual(read_torn(show_floor(floor)), floor)
            self.assertEqual(read_torn(show_torn(floor)), floor)
            self.assertEqual(show_floor(floor), show_torn(floor))

    def test_torn_floors(self):
        chance = random.Random(35)
        for torn in [case[0] for case in TORN_CASES] + [some_torn(chance, 24, 36, 500) for count in range(50)]:
            self.assertEqual(read_torn(show_torn(torn)), torn)
            self.assertTrue(is_plain(read_torn(show_torn(torn))))

    def test_shapes_and_what_is_seen(self):
        chance = random.Random(36)
        for shape in SHAPES + [some_shape(chance, 40, 40, 16) for count in range(100)]:
            self.assertEqual(read_shape(show_shape(shape)), shape)
            self.assertTrue(is_shape(read_shape(show_shape(shape))))
            for seen in (some_seen(chance, shape), (None,) * len(shape), (0,) * len(shape)):
                self.assertEqual(read_seen(show_seen(shape, seen)), (shape, seen))
                self.assertTrue(is_plain(read_seen(show_seen(shape, seen))))

    def test_rows(self):
        chance = random.Random(37)
        rows = [(0,), (599,), tuple(range(600)), (0,) * 600, (599,) * 600]
        for row in rows + [tuple(chance.randrange(600) for n in range(chance.randint(1, 600))) for count in range(30)]:
            self.assertEqual(read_row(show_row(row)), row)
            self.assertTrue(is_row(read_row(show_row(row))))

    def test_what_is_read_is_just_so_written(self):
        for (read, show), (read_for, text) in itertools.product(READ_AND_SHOWN, some_texts()):
            if refusal(read, text) is None:
                self.assertEqual(show(read(text)), text)


class Floors(unittest.TestCase):
    def test_by_hand(self):
        self.assertEqual(read_floor("0"), ((0,),))
        self.assertEqual(read_floor("019/ayz"), ((0, 1, 9), (10, 34, 35)))
        self.assertEqual(read_torn("0?/?z"), ((0, None), (None, 35)))
        self.assertEqual(read_torn("?"), ((None,),))

    def test_refused(self):
        for text in (
            "", "/", "//", "0/", "/0", "0//0", "00/0", "0/00", "A", "Z", "0A", " ", " 0", "0 ", "0 0", "0\n", "\n0", "0\n1",
            "#", ".", "-", "0,1", "0.1", "01/0", "0/1/", "+", "(", "~", "`", "{", ":", "@", "0_", "\n",
        ):
            self.assertIs(refusal(read_floor, text), NoText, text)
            self.assertIs(refusal(read_torn, text), NoText, text)

    def test_torn_signs_write_no_floor(self):
        for text in ("?", "0?", "?0", "0/?", "0?/?z"):
            self.assertIs(refusal(read_floor, text), NoText, text)
            self.assertIsNone(refusal(read_torn, text))

    def test_600_and_601_places(self):
        for read, sign in ((read_floor, "a"), (read_torn, "a"), (read_torn, "?")):
            for high, wide in ((1, 600), (600, 1), (20, 30), (24, 25)):
                self.assertEqual(len(read("/".join([sign * wide] * high))), high)
            for high, wide in ((1, 601), (601, 1), (25, 25), (7, 86)):
                self.assertIs(refusal(read, "/".join([sign * wide] * high)), NoText, (high, wide))
        self.assertTrue(is_floor(read_floor("z" * 600)))


class Shapes(unittest.TestCase):
    def test_by_hand(self):
        self.assertEqual(read_shape("#"), ((0, 0),))
        self.assertEqual(read_shape("..#/##./.../.#."), ((0, 2), (1, 0), (1, 1), (3, 1)))
        self.assertEqual(read_seen(".1/?."), (((0, 1), (1, 0)), (1, None)))
        self.assertEqual(read_seen("0"), (((0, 0),), (0,)))

    def test_empty_first_or_last_rows_or_columns(self):
        for mark, read in (("#", read_shape), ("7", read_seen), ("?", read_seen)):
            for text in (
                ".#", "#.", "./#", "#/.", "..#/..#", "#../#..", ".../#.#", "#.#/...", ".", "./.", "..", ".#./#..", "..#/.#.",
            ):
                self.assertIs(refusal(read, text.replace("#", mark)), NoText, text)
            for text in ("#.#", "#/./#", "#../.../..#", ".#./#.#", ".#/#."):
                self.assertIsNone(refusal(read, text.replace("#", mark)), text)

    def test_16_and_17_cells(self):
        for mark, read in (("#", read_shape), ("7", read_seen), ("?", read_seen)):
            for text in ("#" * 16, "/".join("#" * 16), "/".join(["####"] * 4), "#" * 15 + "." * 24 + "#"):
                self.assertIsNone(refusal(read, text.replace("#", mark)), text)
            for text in ("#" * 17, "/".join("#" * 17), "####/####/####/####/#...", "#" * 16 + "." * 23 + "#", "##/" * 8 + "#."):
                self.assertIs(refusal(read, text.replace("#", mark)), NoText, text)

    def test_40_and_41_rows_or_columns(self):
        for mark, read in (("#", read_shape), ("7", read_seen), ("?", read_seen)):
            for high, wide in ((1, 40), (40, 1), (40, 40), (2, 40), (40, 2)):
                rows = [["."] * wide for i in range(high)]
                rows[0][0] = rows[high - 1][wide - 1] = mark
                self.assertIsNone(refusal(read, "/".join(map("".join, rows))), (high, wide))
            for high, wide in ((1, 41), (41, 1), (41, 41), (2, 41), (41, 2), (40, 41), (41, 40)):
                rows = [["."] * wide for i in range(high)]
                rows[0][0] = rows[high - 1][wide - 1] = mark
                self.assertIs(refusal(read, "/".join(map("".join, rows))), NoText, (high, wide))

    def test_refused(self):
        for mark, read in (("#", read_shape), ("7", read_seen), ("?", read_seen)):
            for text in (
                "", "/", "#/", "/#", "#//#", "##/#", "#/##", " ", "# ", " #", "#\n", "\n#", "#\n#", "#A", "A", "#-", "-", "#,#",
                "# #", "##/# ", "_", "#~", "#/#/", "#./#",
            ):
                self.assertIs(refusal(read, text.replace("#", mark)), NoText, text)

    def test_the_marks_of_the_other_kind(self):
        for text in ("0", "?", "a", "#0", "#?", "0#", "##/#z"):
            self.assertIs(refusal(read_shape, text), NoText, text)
        for text in ("#", "0#", "#0", "?#", "00/0#", "Z"):
            self.assertIs(refusal(read_seen, text), NoText, text)


class Rows(unittest.TestCase):
    def test_by_hand(self):
        self.assertEqual(read_row("0"), (0,))
        self.assertEqual(read_row("0,10,599,7"), (0, 10, 599, 7))

    def test_a_0_ahead(self):
        for text in ("00", "01", "0,00", "0,01", "010", "0599", "1,05", "000"):
            self.assertIs(refusal(read_row, text), NoText, text)

    def test_599_and_600(self):
        self.assertEqual(read_row("599"), (599,))
        for text in ("600", "0,600", "600,0", "999", "1000", "1000000", "9" * 50, "9" * 2400):
            self.assertIs(refusal(read_row, text), NoText, text)

    def test_600_and_601_numbers(self):
        self.assertEqual(read_row(",".join(["0"] * 600)), (0,) * 600)
        self.assertIs(refusal(read_row, ",".join(["0"] * 601)), NoText)

    def test_refused(self):
        for text in (
            "", ",", "0,", ",0", "0,,0", " ", "0 ", " 0", "0, 0", "0 ,0", "0 0", "0\n", "\n0", "0,\n0", "-1", "-0", "+1", "1_0", "a",
            "0,a", "0x1", "1.0", "0/1", "?", "0,?", "1e2",
        ):
            self.assertIs(refusal(read_row, text), NoText, text)


class AnyText(unittest.TestCase):
    def test_each_short_text(self):
        signs = "0az?#./,A \n"
        for many in range(5):
            for text in map("".join, itertools.product(signs, repeat=many)):
                for read in READERS:
                    wanted = None if naively_written(read, text) else NoText
                    self.assertIs(refusal(read, text), wanted, (read, text))

    def test_a_sign_left_out_put_in_or_exchanged(self):
        chance = random.Random(38)
        for read, text in some_texts():
            self.assertIsNone(refusal(read, text), (read, text))
            others = [text[:at] + text[at + 1:] for at in range(len(text))]
            for at in range(len(text) + 1):
                others += [text[:at] + sign + text[at:] for sign in chance.sample(ANY_SIGNS, 12)]
                others += [text[:at] + sign + text[at:] for sign in "0z?#./,A \n"]
                others += [text[:at] + sign + text[at + 1:] for sign in chance.sample(ANY_SIGNS, 12)]
                others += [text[:at] + sign + text[at + 1:] for sign in "0z?#./,A \n"]
            for other in others:
                wanted = None if naively_written(read, other) else NoText
                self.assertIs(refusal(read, other), wanted, (read, text, other))

    def test_great_letters_blanks_and_line_feeds(self):
        for read, text in some_texts():
            for other in (text + "\n", "\n" + text, text + " ", " " + text, text + "A", text + "/", text + ","):
                self.assertIs(refusal(read, other), NoText, (read, other))
            if text.upper() != text:
                self.assertIs(refusal(read, text.upper()), NoText, (read, text))

    def test_long_texts(self):
        for sign, read in itertools.product(ANY_SIGNS, READERS):
            self.assertIs(refusal(read, sign * 2500), NoText)

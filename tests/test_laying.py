"""Points 15 to 17: floors laid of rows."""

import itertools
import random
import unittest

from tests.helpers import is_plain, places, refusal
from windowfloor.errors import NotRound, NoWay, TooGreat
from windowfloor.floors import is_floor
from windowfloor.laying import evened, full_floor, laid
from windowfloor.leastrows import least_row
from windowfloor.shapes import box
from windowfloor.windows import is_full

FULL_SIZES = [(k, a, b) for k in range(1, 37) for a in range(1, 17) for b in range(1, 17) if a * b <= 16]


class Laid(unittest.TestCase):
    def test_by_hand(self):
        self.assertEqual(laid((0, 1, 2), (0,)), ((0,), (1,), (2,)))
        self.assertEqual(laid((0, 1, 2), (1, 2)), ((0, 1), (1, 2), (2, 0)))
        self.assertEqual(laid((5, 7), (1, 0, 1, 0)), ((5, 7, 7, 5), (7, 5, 5, 7)))
        self.assertEqual(laid((0, 0, 1, 2), (3, 3, 2)), ((0, 2, 1), (0, 0, 2), (1, 0, 0), (2, 1, 0)))

    def test_bases_of_one_sign(self):
        self.assertEqual(laid((35,), (0,)), ((35,),))
        self.assertEqual(laid((35,), (0, 0, 0)), ((35, 35, 35),))

    def test_steps_whose_sum_is_nought(self):
        self.assertEqual(laid((4, 5), (0, 0)), ((4, 4), (5, 5)))
        self.assertEqual(laid((1, 2, 3), (0,)), ((1,), (2,), (3,)))

    def test_as_the_definition(self):
        chance = random.Random(15)
        done = 0
        while done < 200:
            n = chance.randint(1, 9)
            base = tuple(chance.randrange(36) for sign in range(n))
            steps = tuple(chance.randrange(n) for step in range(chance.randint(1, 12)))
            if sum(steps) % n:
                self.assertIs(refusal(laid, base, steps), NotRound)
                continue
            floor = laid(base, steps)
            self.assertEqual((len(floor), len(floor[0])), (n, len(steps)))
            for r, c in places(floor):
                self.assertEqual(floor[r][c], base[(r + sum(steps[:c])) % n])
            self.assertTrue(is_floor(floor) and is_plain(floor))
            done += 1

    def test_no_multiple_is_refused(self):
        for base, steps in (
            ((0, 1), (1,)), ((0, 1, 2), (1, 1)), ((0, 1, 2), (2, 2, 1, 2)), ((0,) * 600, (599,)), ((0,) * 5, (1, 1, 1, 1)),
        ):
            self.assertIs(refusal(laid, base, steps), NotRound)

    def test_just_600_places(self):
        for n, many in ((1, 600), (600, 1), (20, 30), (24, 25)):
            floor = laid(tuple(at % 36 for at in range(n)), (0,) * many)
            self.assertEqual(floor, tuple((r % 36,) * many for r in range(n)))

    def test_more_are_refused(self):
        for n, many in ((2, 301), (301, 2), (600, 2), (600, 600), (25, 25)):
            self.assertIs(refusal(laid, (0,) * n, (0,) * many), TooGreat)
        # 601 is a prime.
        self.assertIs(refusal(laid, (0,), (0,) * 601), TooGreat)

    def test_both_refusals_at_once(self):
        self.assertIs(refusal(laid, (0,) * 600, (1, 0)), NotRound)
        self.assertIs(refusal(laid, (0,) * 600, (300, 299)), NotRound)
        self.assertIs(refusal(laid, (0,) * 600, (300, 300)), TooGreat)
        self.assertIs(refusal(laid, (0,) * 2, (1,) * 303), NotRound)


class Evened(unittest.TestCase):
    def test_by_hand(self):
        self.assertEqual(evened((0, 1), 3), (1, 2))
        self.assertEqual(evened((0, 1, 2), 3), (0, 1, 2))
        self.assertEqual(evened((2, 2), 3), (0, 0))
        self.assertEqual(evened((3,), 5), (0,))
        self.assertEqual(evened((0,), 1), (0,))

    def test_where_nought_does(self):
        for steps, n in (((0,), 7), ((3, 4), 7), ((0, 0, 0), 600), ((1, 1), 2), ((0, 0), 1), ((599, 1), 600)):
            self.assertEqual(evened(steps, n), steps)

    def test_the_least_number_not_another(self):
        # 0, 2 and 4 would do as well as 1, 3 and 5.
        self.assertEqual(evened((0, 0, 0), 6), (0, 0, 0))
        self.assertEqual(evened((1, 1, 1), 6), (2, 2, 2))
        self.assertEqual(evened((5, 5, 5), 6), (0, 0, 0))

    def test_the_greatest_number_that_may_be(self):
        self.assertEqual(evened((1,), 600), (0,))
        self.assertEqual(evened((0, 1), 599), (299, 300))
        self.assertEqual(evened((1, 1, 1), 599), (0, 0, 0))

    def test_where_none_does(self):
        for steps, n in (
            ((0, 1), 2), ((0, 1), 4), ((1, 0, 0), 3), ((0, 0, 1), 600), ((1,) + (0,) * 599, 600), ((1, 2, 3, 4), 4),
        ):
            self.assertIs(refusal(evened, steps, n), NoWay)

    def test_as_the_definition(self):
        for n in (1, 2, 3, 4, 5, 6):
            for many in (1, 2, 3, 4):
                for steps in itertools.product(range(n), repeat=many):
                    that_do = [more for more in range(n) if (sum(steps) + more * many) % n == 0]
                    if that_do:
                        told = evened(steps, n)
                        self.assertEqual(told, tuple((step + that_do[0]) % n for step in steps))
                        self.assertEqual(sum(told) % n, 0)
                        self.assertTrue(is_plain(told))
                    else:
                        self.assertIs(refusal(evened, steps, n), NoWay)


class FullFloor(unittest.TestCase):
    def test_by_hand(self):
        self.assertEqual(full_floor(1, 1, 1), ((0,),))
        self.assertEqual(full_floor(2, 2, 1), ((0,), (0,), (1,), (1,)))
        self.assertEqual(full_floor(3, 1, 2), ((0, 0, 1), (1, 1, 2), (2, 2, 0)))
        self.assertEqual(full_floor(36, 1, 1), tuple((sign,) for sign in range(36)))

    def test_each_size(self):
        for k, a, b in FULL_SIZES:
            told = refusal(full_floor, k, a, b)
            if k ** (a * b) > 600:
                self.assertIs(told, TooGreat, (k, a, b))
            elif b == 2 and k % 2 == 0:
                self.assertIs(told, NoWay, (k, a, b))
            else:
                self.assertIsNone(told, (k, a, b))
                floor = full_floor(k, a, b)
                self.assertIs(is_full(floor, box(a, b), k), True, (k, a, b))
                self.assertEqual((len(floor), len(floor[0])), (k ** a, k ** (a * (b - 1))))
                self.assertTrue(is_floor(floor) and is_plain(floor))

    def test_of_which_rows(self):
        self.assertEqual(full_floor(2, 3, 1), laid(least_row(2, 3), (0,)))
        self.assertEqual(full_floor(2, 2, 3), laid(least_row(2, 2), least_row(4, 2)))
        self.assertEqual(full_floor(2, 1, 9), laid(least_row(2, 1), least_row(2, 8)))
        self.assertEqual(full_floor(3, 2, 2), laid(least_row(3, 2), least_row(9, 1)))
        self.assertEqual(full_floor(3, 1, 5), laid(least_row(3, 1), least_row(3, 4)))
        self.assertEqual(full_floor(5, 1, 3), laid(least_row(5, 1), least_row(5, 2)))
        self.assertEqual(full_floor(23, 1, 2), laid(least_row(23, 1), least_row(23, 1)))

    def test_both_refusals_at_once(self):
        for k, a, b in ((2, 5, 2), (2, 8, 2), (4, 3, 2), (26, 1, 2), (36, 1, 2), (36, 8, 2)):
            self.assertIs(refusal(full_floor, k, a, b), TooGreat)
        for k, a, b in ((2, 1, 2), (2, 4, 2), (4, 2, 2), (24, 1, 2)):
            self.assertIs(refusal(full_floor, k, a, b), NoWay)

    def test_k_1(self):
        for a, b in ((1, 1), (16, 1), (1, 16), (4, 4), (8, 2), (1, 2)):
            self.assertEqual(full_floor(1, a, b), ((0,),))

"""Point 27, of it what patterns show and whether they see."""

import functools
import itertools
import random
import unittest

from tests.helpers import all_states, is_plain
from windowfloor.machines import machine_row, stepped
from windowfloor.seeing import judged, shown

FAR = 10 ** 6
MACHINES = [
    (2, (1,)), (2, (1, 0)), (2, (1, 1)), (2, (1, 1, 0)), (2, (1, 1, 1)), (2, (1, 0, 0, 1)), (2, (1, 0, 0, 0, 0)), (3, (1,)),
    (3, (2,)), (3, (1, 0)), (3, (1, 1)), (3, (2, 0, 1)), (5, (1,)), (5, (3, 4)), (5, (2, 0, 1)), (7, (3,)), (7, (1, 6)),
    (7, (4, 0, 2)), (3, (1, 2, 0, 0, 2)), (2, (1, 0, 0, 0, 1, 0, 0, 0, 0)), (2, (1,) * 9),
]


@functools.lru_cache(maxsize=None)
def all_rows(machine):
    return {state: machine_row(machine, state) for state in all_states(machine)}


def some_patterns(chance, many):
    """Patterns of one to sixteen numbers, small ones, great ones, the same ones twice."""
    told = [(0,), (FAR,), tuple(range(16)), (0,) * 16, (FAR,) * 16, tuple(range(FAR - 15, FAR + 1)), tuple(range(0, 160, 10))]
    for count in range(many):
        most = chance.choice((3, 12, FAR + 1))
        told.append(tuple(chance.randrange(most) for number in range(chance.randint(1, 16))))
    return told


class Shown(unittest.TestCase):
    def test_by_hand(self):
        machine = (2, (1, 1, 0))
        # The row is 0010111.
        self.assertEqual(shown(machine, (0, 1, 2), (0, 0, 1)), (0, 0, 1))
        self.assertEqual(shown(machine, (2, 4, 3, 2), (0, 0, 1)), (1, 1, 0, 1))
        self.assertEqual(shown(machine, (7, 9, 700), (0, 0, 1)), (0, 1, 0))
        self.assertEqual(shown((7, (3,)), (0, 1, 2, 3, 4, 5, 6), (1,)), (1, 3, 2, 6, 4, 5, 1))
        self.assertEqual(shown((7, (3,)), (FAR,), (1,)), (4,))

    def test_as_the_definition(self):
        chance = random.Random(27)
        for machine in MACHINES:
            for pattern in some_patterns(chance, 5):
                state = chance.choice(all_states(machine))
                told = shown(machine, pattern, state)
                self.assertEqual(told, tuple(stepped(machine, state, number)[0] for number in pattern))
                self.assertTrue(is_plain(told))

    def test_noughts_alone(self):
        for machine in MACHINES:
            for pattern in ((0,), (FAR, 0, 1), tuple(range(16))):
                self.assertEqual(shown(machine, pattern, (0,) * len(machine[1])), (0,) * len(pattern))


class Judged(unittest.TestCase):
    def check(self, machine, pattern):
        k, taps = machine
        told = judged(machine, pattern)
        self.assertTrue(is_plain(told))
        self.assertEqual(len(told), 2)
        all_shown = {}
        for state, row in all_rows(machine).items():
            all_shown[state] = tuple(row[number % len(row)] for number in pattern)
        blind_to = [state for state in all_shown if any(state) and not any(all_shown[state])]
        if blind_to:
            self.assertEqual(told[0], "blind", (machine, pattern))
            self.assertIn(told[1], blind_to)
        else:
            self.assertEqual(told[0], "sees", (machine, pattern))
            self.assertEqual(len(told[1]), len(taps))
            for at, factors in enumerate(told[1]):
                self.assertEqual(len(factors), len(pattern))
                self.assertTrue(all(0 <= factor < k for factor in factors))
                for state, seen in all_shown.items():
                    self.assertEqual(sum(factor * sign for factor, sign in zip(factors, seen)) % k, state[at])
        self.assertEqual(judged(machine, pattern), told)
        return told[0]

    def test_by_hand(self):
        machine = (2, (1, 1, 0))
        self.assertEqual(judged(machine, (0, 1, 2)), ("sees", ((1, 0, 0), (0, 1, 0), (0, 0, 1))))
        self.assertEqual(judged(machine, (2, 0, 1)), ("sees", ((0, 1, 0), (0, 0, 1), (1, 0, 0))))
        # Behind three steps comes the sum of the first two numbers: so only the last is not shown.
        self.assertEqual(judged(machine, (0, 1, 3)), ("blind", (0, 0, 1)))
        self.assertEqual(judged((7, (3,)), (1,)), ("sees", ((5,),)))
        self.assertEqual(judged((2, (1,)), (FAR,)), ("sees", ((1,),)))
        self.assertEqual(judged((2, (1, 0)), (0, 2, 4)), ("blind", (0, 1)))

    def test_patterns_of_one_number(self):
        for machine in MACHINES:
            for number in (0, 1, 2, FAR):
                self.assertEqual(self.check(machine, (number,)), "sees" if len(machine[1]) == 1 else "blind")

    def test_as_many_numbers_in_a_row_as_taps(self):
        for machine in MACHINES:
            for start in (0, 1, 5, FAR - 10):
                m = len(machine[1])
                self.assertEqual(self.check(machine, tuple(range(start, start + m))), "sees")
                self.assertEqual(self.check(machine, tuple(range(start, start + m))[::-1]), "sees")
                if m > 1:
                    self.assertEqual(self.check(machine, tuple(range(start, start + m - 1))), "blind")

    def test_the_same_number_twice(self):
        for machine in MACHINES:
            m = len(machine[1])
            self.assertEqual(self.check(machine, (1,) * 16), "sees" if m == 1 else "blind")
            self.assertEqual(self.check(machine, (0, 0, *range(m), m - 1)), "sees")
            period = len(machine_row(machine, (0,) * (m - 1) + (1,)))
            self.assertEqual(self.check(machine, (0, period, 2 * period)), "sees" if m == 1 else "blind")

    def test_each_small_pattern(self):
        for machine in MACHINES[:9]:
            for many in (1, 2, 3):
                for pattern in itertools.product(range(5), repeat=many):
                    self.check(machine, pattern)

    def test_any_pattern(self):
        chance = random.Random(28)
        sorts = []
        for machine in MACHINES:
            sorts += [self.check(machine, pattern) for pattern in some_patterns(chance, 12)]
        self.assertGreater(sorts.count("sees"), 50)
        self.assertGreater(sorts.count("blind"), 50)

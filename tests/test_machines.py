"""Point 26: machines."""

import itertools
import math
import random
import unittest

from tests.helpers import LikeAll, STRANGE_THINGS, all_states, is_plain, nested
from windowfloor.machines import is_greatest, is_machine, machine_row, order, stepped
from windowfloor.words import is_row

# Of each k the most taps that may be: 512, 243, 125 and 343 states.
MOST_TAPS = {2: 9, 3: 5, 5: 3, 7: 3}
SMALL_MACHINES = [
    (k, taps) for k, m in ((2, 1), (2, 2), (2, 3), (2, 4), (3, 1), (3, 2), (3, 3), (5, 1), (5, 2), (7, 1))
    for taps in itertools.product(range(k), repeat=m) if taps[0] != 0
]


def great_machines():
    chance = random.Random(26)
    told = [(2, (1, 0, 0, 0, 1, 0, 0, 0, 0)), (2, (1,) * 9), (3, (1, 2, 0, 0, 0)), (5, (2, 0, 1)), (7, (3, 1, 0))]
    told += [(7, (6,)), (5, (4,))]
    for k, m in MOST_TAPS.items():
        told += [(k, (chance.randrange(1, k), *[chance.randrange(k) for tap in range(m - 1)])) for count in range(5)]
    return told


def naive_step(machine, state):
    k, taps = machine
    total = 0
    for at in range(len(taps)):
        total += taps[at] * state[at]
    return (*state[1:], total % k)


def naive_states(machine, state):
    told, now = [state], naive_step(machine, state)
    while now != state:
        told.append(now)
        now = naive_step(machine, now)
    return told


class IsMachine(unittest.TestCase):
    def test_machines(self):
        for machine in SMALL_MACHINES + great_machines():
            self.assertIs(is_machine(machine), True, machine)

    def test_k(self):
        for k in range(-1, 40):
            self.assertIs(is_machine((k, (1,))), k in (2, 3, 5, 7), k)
        for k in (10 ** 6, -2, -7, None, "2", (2,), [2], b"2", nested(20, 2), True, False):
            self.assertIs(is_machine((k, (1,))), False, k)

    def test_how_many_taps(self):
        for k, most in MOST_TAPS.items():
            for many in range(0, 13):
                self.assertIs(is_machine((k, (1,) * many)), 1 <= many <= most, (k, many))

    def test_taps_below_k(self):
        for k, most in MOST_TAPS.items():
            for tap in (-1, k, k + 1, 10 ** 6, -10 ** 6, None, "0", True, False, (0,), [], ()):
                for at in range(most):
                    taps = (1,) * at + (tap,) + (1,) * (most - 1 - at)
                    self.assertIs(is_machine((k, taps)), False, taps)
            for tap in range(k):
                for at in range(1, most):
                    self.assertIs(is_machine((k, (k - 1,) * at + (tap,))), True)

    def test_the_first_tap_is_not_0(self):
        self.assertIs(is_machine((2, (0,))), False)
        self.assertIs(is_machine((7, (0, 1, 1))), False)
        self.assertIs(is_machine((7, (1, 0, 0))), True)

    def test_kinds(self):
        for thing in (
            [2, (1,)], (2, [1]), [2, [1]], (2, {1: 1}), (2, {1}), (2, "1"), (2, b"\x01"), (2, 1), (2, None), ((2,), (1,)),
            ((1,), 2), (2,), (2, (1,), (1,)), (2, (1,), None), (2, 1, 1), (), (2, ((1,),)), (2, (True,)), (True, (1,)),
            (2, (1, False)), (2, nested(28, 1)), nested(27, (2, (1,))), ((2, (1,)),), (2, range(1, 2)), (2, (1, nested(20, 0))),
        ):
            self.assertIs(is_machine(thing), False, thing)

    def test_objects_that_are_like_all(self):
        for thing in ((LikeAll(), (1,)), (2, LikeAll()), (2, (LikeAll(),)), (2, (1, LikeAll())), LikeAll()):
            self.assertIs(is_machine(thing), False)

    def test_strange_things(self):
        for thing in STRANGE_THINGS:
            self.assertIs(is_machine(thing), False, repr(thing))
            self.assertIs(is_machine((thing, (1,))), False, repr(thing))
            self.assertIs(is_machine((thing, thing)), False, repr(thing))
            self.assertIs(is_machine((2, thing)), False, repr(thing))
            self.assertIs(is_machine((2, (thing,))), type(thing) is int and thing == 1, repr(thing))
            self.assertIs(is_machine((3, (2, thing))), type(thing) is int and thing in (0, 1), repr(thing))


class Stepped(unittest.TestCase):
    def test_by_hand(self):
        machine = (2, (1, 1, 0))
        self.assertEqual(stepped(machine, (0, 0, 1), 1), (0, 1, 0))
        self.assertEqual(stepped(machine, (0, 1, 0), 1), (1, 0, 1))
        self.assertEqual(stepped(machine, (1, 0, 1), 1), (0, 1, 1))
        self.assertEqual(stepped((3, (2, 1)), (1, 2), 1), (2, 1))
        self.assertEqual(stepped((7, (3,)), (2,), 1), (6,))
        self.assertEqual(stepped((7, (3,)), (2,), 2), (4,))
        # The taps stand as the state's numbers do, not the other way round.
        self.assertEqual(stepped((5, (1, 2, 3)), (1, 0, 0), 1), (0, 0, 1))
        self.assertEqual(stepped((5, (1, 2, 3)), (0, 0, 1), 1), (0, 1, 3))

    def test_by_nought(self):
        for machine in SMALL_MACHINES:
            for state in all_states(machine):
                self.assertEqual(stepped(machine, state, 0), state)

    def test_step_by_step(self):
        for machine in SMALL_MACHINES:
            for state in all_states(machine)[::3]:
                now = state
                for many in range(1, 40):
                    now = naive_step(machine, now)
                    self.assertEqual(stepped(machine, state, many), now)

    def test_great_machines(self):
        chance = random.Random(27)
        for machine in great_machines():
            state = tuple(chance.randrange(machine[0]) for tap in machine[1])
            now = state
            for many in range(1300):
                if many % 50 < 2:
                    self.assertEqual(stepped(machine, state, many), now)
                    self.assertTrue(is_plain(stepped(machine, state, many)))
                now = naive_step(machine, now)

    def test_by_a_million(self):
        machine, state = (2, (1, 0, 0, 0, 1, 0, 0, 0, 0)), (0, 1, 1, 0, 1, 0, 0, 0, 1)
        now = state
        for step in range(10 ** 6):
            now = (*now[1:], now[0] ^ now[4])
        self.assertEqual(stepped(machine, state, 10 ** 6), now)
        # 10 ** 6 leaves 4 by 6.
        self.assertEqual(stepped((7, (3,)), (1,), 10 ** 6), (4,))

    def test_noughts_alone(self):
        for machine in SMALL_MACHINES + great_machines():
            noughts = (0,) * len(machine[1])
            for many in (0, 1, 599, 10 ** 6):
                self.assertEqual(stepped(machine, noughts, many), noughts)


class MachineRow(unittest.TestCase):
    def test_by_hand(self):
        self.assertEqual(machine_row((2, (1, 1, 0)), (0, 0, 1)), (0, 0, 1, 0, 1, 1, 1))
        self.assertEqual(machine_row((2, (1, 1, 0)), (1, 1, 1)), (1, 1, 1, 0, 0, 1, 0))
        self.assertEqual(machine_row((7, (3,)), (1,)), (1, 3, 2, 6, 4, 5))
        self.assertEqual(machine_row((2, (1,)), (1,)), (1,))
        self.assertEqual(machine_row((3, (1, 0)), (1, 2)), (1, 2))

    def test_noughts_alone(self):
        for machine in SMALL_MACHINES + great_machines():
            self.assertEqual(machine_row(machine, (0,) * len(machine[1])), (0,))

    def test_as_the_definition(self):
        for machine in SMALL_MACHINES:
            for state in all_states(machine):
                told = machine_row(machine, state)
                self.assertEqual(told, tuple(now[0] for now in naive_states(machine, state)))
                self.assertTrue(is_row(told) and is_plain(told))
        for machine in great_machines():
            state = (1,) * len(machine[1])
            self.assertEqual(machine_row(machine, state), tuple(now[0] for now in naive_states(machine, state)))


class Order(unittest.TestCase):
    def test_by_hand(self):
        self.assertEqual(order((2, (1,))), 1)
        self.assertEqual(order((2, (1, 1))), 3)
        self.assertEqual(order((2, (1, 1, 1))), 4)
        self.assertEqual(order((2, (1, 0, 0))), 3)
        self.assertEqual(order((7, (3,))), 6)
        self.assertEqual(order((7, (6,))), 2)
        self.assertEqual(order((2, (1, 0, 0, 0, 1, 0, 0, 0, 0))), 511)

    def test_as_the_definition(self):
        for machine in SMALL_MACHINES + great_machines():
            told = order(machine)
            self.assertEqual(told, math.lcm(*[len(naive_states(machine, state)) for state in all_states(machine)]), machine)
            self.assertTrue(is_plain(told))


class IsGreatest(unittest.TestCase):
    def test_by_hand(self):
        self.assertIs(is_greatest((2, (1,))), True)
        self.assertIs(is_greatest((2, (1, 0))), False)
        self.assertIs(is_greatest((2, (1, 1))), True)
        self.assertIs(is_greatest((2, (1, 1, 0))), True)
        self.assertIs(is_greatest((2, (1, 1, 1))), False)
        self.assertIs(is_greatest((3, (1,))), False)
        self.assertIs(is_greatest((3, (2,))), True)
        self.assertIs(is_greatest((7, (3,))), True)
        self.assertIs(is_greatest((7, (2,))), False)
        self.assertIs(is_greatest((2, (1, 0, 0, 0, 1, 0, 0, 0, 0))), True)
        # 16 - 1 steps bring each state again here, but no state goes through all others.
        self.assertIs(is_greatest((2, (1, 1, 1, 1))), False)

    def test_as_the_definition(self):
        for machine in SMALL_MACHINES + great_machines():
            wanted = any(len(naive_states(machine, state)) == len(all_states(machine)) - 1 for state in all_states(machine)[1:])
            self.assertIs(is_greatest(machine), wanted, machine)

"""Point 27, of it what shows that a pattern sees or is blind."""

import functools
import itertools
import random
import unittest

from tests.helpers import LikeAll, STRANGE_THINGS, all_states, nested
from windowfloor.machines import stepped
from windowfloor.seeing import judged
from windowfloor.seelooks import shows_judged

FAR = 10 ** 6
MACHINES = [
    (2, (1,)), (2, (1, 1)), (2, (1, 1, 0)), (2, (1, 1, 1)), (2, (1, 0, 0, 1)), (3, (2,)), (3, (1, 0)), (3, (2, 0, 1)),
    (5, (3,)), (5, (3, 4)), (7, (3,)), (7, (1, 6)),
]
GREAT_MACHINES = [(2, (1, 0, 0, 0, 1, 0, 0, 0, 0)), (2, (1,) * 9), (3, (1, 2, 0, 0, 2)), (5, (2, 0, 1)), (7, (4, 0, 2))]
PATTERNS = [
    (0,), (FAR,), (0, 1), (1, 0), (0, 0), (3, 3, 3), (0, 1, 2), (0, 1, 3), (0, 2, 4), (5, 1, 0, 2), (FAR, FAR - 1, 7, 7),
    (0,) * 16, tuple(range(16)), tuple(range(FAR - 15, FAR + 1)), tuple(range(0, 160, 10)),
]


@functools.lru_cache(maxsize=None)
def looks_of(machine, pattern):
    return {state: tuple(stepped(machine, state, steps)[0] for steps in pattern) for state in all_states(machine)}


def naive_sees(machine, pattern, paper):
    """Whether the tuple of tuples of factors tells each state of what it shows."""
    k, taps = machine
    if len(paper) != len(taps) or any(len(factors) != len(pattern) for factors in paper):
        return False
    if any(not 0 <= factor < k for factors in paper for factor in factors):
        return False
    for state, seen in looks_of(machine, pattern).items():
        for number, factors in zip(state, paper):
            if sum(factor * sign for factor, sign in zip(factors, seen)) % k != number:
                return False
    return True


def cases():
    return itertools.product(MACHINES, PATTERNS)


def with_other(row, at, other):
    return row[:at] + (other,) + row[at + 1:]


class WhatJudgedTells(unittest.TestCase):
    def test_is_shown(self):
        for machine, pattern in itertools.product(MACHINES + GREAT_MACHINES, PATTERNS):
            told = judged(machine, pattern)
            self.assertIs(shows_judged(machine, pattern, told), True, (machine, pattern))
            # The same under the other word, or under another one, is not so.
            other = {"sees": "blind", "blind": "sees"}[told[0]]
            for word in (other, "", "Sees", "BLIND", "sees ", "see", "blinds", "paper", "state"):
                self.assertIs(shows_judged(machine, pattern, (word, told[1])), False, (machine, pattern, word))

    def test_by_hand(self):
        machine = (2, (1, 1, 0))
        self.assertIs(shows_judged(machine, (0, 1, 2), ("sees", ((1, 0, 0), (0, 1, 0), (0, 0, 1)))), True)
        self.assertIs(shows_judged(machine, (0, 1, 2), ("sees", ((1, 0, 0), (0, 1, 0), (0, 1, 1)))), False)
        self.assertIs(shows_judged(machine, (0, 1, 2), ("sees", ((0, 1, 0), (1, 0, 0), (0, 0, 1)))), False)
        self.assertIs(shows_judged(machine, (0, 1, 3), ("blind", (0, 0, 1))), True)
        self.assertIs(shows_judged(machine, (0, 1, 3), ("blind", (1, 0, 1))), False)
        self.assertIs(shows_judged((7, (3,)), (1,), ("sees", ((5,),))), True)
        self.assertIs(shows_judged((7, (3,)), (1,), ("sees", ((4,),))), False)
        # Of a pattern with the same number twice there are several papers.
        for paper in (((1, 0),), ((0, 1),)):
            self.assertIs(shows_judged((2, (1,)), (3, 3), ("sees", paper)), True)
        for paper in (((0, 0),), ((1, 1),)):
            self.assertIs(shows_judged((2, (1,)), (3, 3), ("sees", paper)), False)


class Papers(unittest.TestCase):
    def test_each_tiny_paper(self):
        for machine, pattern in (
            ((2, (1,)), (0,)), ((2, (1,)), (0, 5)), ((2, (1, 1)), (0, 1)), ((2, (1, 1)), (2, 1)), ((2, (1, 1)), (0, 3)),
            ((2, (1, 1)), (0, 1, 2)), ((3, (2,)), (1, 2)), ((3, (1, 1)), (0, 2)), ((5, (3,)), (1,)), ((7, (3,)), (2,)),
        ):
            k, taps = machine
            right = 0
            rows = list(itertools.product(range(k), repeat=len(pattern)))
            for paper in itertools.product(rows, repeat=len(taps)):
                wanted = naive_sees(machine, pattern, paper)
                right += wanted
                self.assertIs(shows_judged(machine, pattern, ("sees", paper)), wanted, (machine, pattern, paper))
            self.assertEqual(right > 0, judged(machine, pattern)[0] == "sees")

    def test_a_factor_otherwise(self):
        for machine, pattern in cases():
            sort, paper = judged(machine, pattern)
            if sort == "blind":
                continue
            for row, at in itertools.product(range(len(paper)), range(len(pattern))):
                for factor in range(machine[0]):
                    wrong = with_other(paper, row, with_other(paper[row], at, factor))
                    self.assertIs(shows_judged(machine, pattern, ("sees", wrong)), factor == paper[row][at])

    def test_factors_that_are_not_below_k(self):
        for machine, pattern in cases():
            k, taps = machine
            sort, paper = judged(machine, pattern)
            if sort == "blind":
                continue
            for row, at in itertools.product(range(len(paper)), range(len(pattern))):
                factor = paper[row][at]
                for wrong in (factor + k, factor - k, k, -1, FAR, None, "0", (factor,), [factor], True, False, b"0"):
                    thing = ("sees", with_other(paper, row, with_other(paper[row], at, wrong)))
                    self.assertIs(shows_judged(machine, pattern, thing), False, thing)

    def test_a_row_or_a_factor_more_or_fewer(self):
        for machine, pattern in cases():
            sort, paper = judged(machine, pattern)
            if sort == "blind":
                continue
            noughts = (0,) * len(pattern)
            wrongs = [paper[1:], paper[:-1], paper + (noughts,), (noughts,) + paper, paper + paper[-1:], (), paper + ((),)]
            for row, factors in enumerate(paper):
                for other in (factors[1:], factors[:-1], factors + (0,), (0,) + factors, (), None, 0, "0", list(factors)):
                    wrongs.append(with_other(paper, row, other))
            for wrong in wrongs:
                self.assertIs(shows_judged(machine, pattern, ("sees", wrong)), False, (machine, pattern, wrong))

    def test_any_paper(self):
        chance = random.Random(27)
        for machine, pattern in cases():
            k, taps = machine
            for count in range(10):
                paper = tuple(tuple(chance.randrange(k) for number in pattern) for tap in taps)
                wanted = naive_sees(machine, pattern, paper)
                self.assertIs(shows_judged(machine, pattern, ("sees", paper)), wanted)

    def test_papers_other_than_told(self):
        # The sum of what is shown twice and of noughts is put to a right paper: it stays right.
        machine, pattern = (3, (2, 0, 1)), (0, 1, 2, 0, 27)
        sort, paper = judged(machine, pattern)
        self.assertEqual(sort, "sees")
        done = 0
        for more in itertools.product(range(3), repeat=5):
            other = with_other(paper, 1, tuple((a + b) % 3 for a, b in zip(paper[1], more)))
            wanted = naive_sees(machine, pattern, other)
            self.assertIs(shows_judged(machine, pattern, ("sees", other)), wanted)
            done += wanted
        self.assertEqual(done, 9)


class States(unittest.TestCase):
    def test_each_state(self):
        for machine, pattern in cases():
            for state, seen in looks_of(machine, pattern).items():
                wanted = any(state) and not any(seen)
                self.assertIs(shows_judged(machine, pattern, ("blind", state)), wanted, (machine, pattern, state))

    def test_noughts_alone(self):
        for machine, pattern in itertools.product(MACHINES + GREAT_MACHINES, PATTERNS):
            noughts = (0,) * len(machine[1])
            self.assertIs(shows_judged(machine, pattern, ("blind", noughts)), False)

    def test_too_many_or_too_few_numbers(self):
        for machine, pattern in itertools.product(MACHINES + GREAT_MACHINES, PATTERNS):
            sort, state = judged(machine, pattern)
            if sort == "sees":
                continue
            for wrong in (state[1:], state[:-1], state + (0,), (0,) + state, state + state, (), (state,), list(state)):
                self.assertIs(shows_judged(machine, pattern, ("blind", wrong)), False, (machine, pattern, wrong))

    def test_numbers_that_are_not_below_k(self):
        for machine, pattern in cases():
            k, taps = machine
            sort, state = judged(machine, pattern)
            if sort == "sees":
                continue
            for at, number in enumerate(state):
                for wrong in (number + k, number - k, -1, k, FAR, None, "1", (number,), [], True, False):
                    thing = ("blind", with_other(state, at, wrong))
                    self.assertIs(shows_judged(machine, pattern, thing), False, thing)


class OfAnything(unittest.TestCase):
    SEES = ((2, (1, 1)), (0, 1), ("sees", ((1, 0), (0, 1))))
    BLIND = ((2, (1, 0)), (0, 2), ("blind", (0, 1)))

    def test_truths_are_no_numbers(self):
        machine, pattern, told = self.SEES
        self.assertIs(shows_judged(machine, pattern, told), True)
        for paper in (((True, 0), (0, 1)), ((1, False), (0, 1)), ((1, 0), (False, True)), ((1, 0), True), (True, False), True):
            self.assertIs(shows_judged(machine, pattern, ("sees", paper)), False, paper)
        machine, pattern, told = self.BLIND
        self.assertIs(shows_judged(machine, pattern, told), True)
        for state in ((False, 1), (0, True), (False, True), True):
            self.assertIs(shows_judged(machine, pattern, ("blind", state)), False, state)

    def test_lists_are_no_tuples(self):
        machine, pattern, told = self.SEES
        for thing in (
            ["sees", ((1, 0), (0, 1))], ("sees", [(1, 0), (0, 1)]), ("sees", ([1, 0], (0, 1))), ("sees", ((1, 0), [0, 1])),
            ["sees", [[1, 0], [0, 1]]],
        ):
            self.assertIs(shows_judged(machine, pattern, thing), False, thing)
        machine, pattern, told = self.BLIND
        for thing in (["blind", (0, 1)], ("blind", [0, 1]), ["blind", [0, 1]]):
            self.assertIs(shows_judged(machine, pattern, thing), False, thing)

    def test_too_few_and_too_many_parts(self):
        for machine, pattern, told in (self.SEES, self.BLIND):
            word, paper = told
            for thing in (
                (), (word,), (paper,), (word, paper, paper), (word, paper, None), (word, word), (paper, word), word, paper,
                (word, *paper), (told,), (told, told), (word, told), ((word, paper),),
            ):
                self.assertIs(shows_judged(machine, pattern, thing), False, thing)

    def test_words(self):
        for machine, pattern, (right, paper) in (self.SEES, self.BLIND):
            for word in (None, True, 0, 1, b"sees", b"blind", ("sees",), ["blind"], "saw", right.upper(), "", right + "\n"):
                self.assertIs(shows_judged(machine, pattern, (word, paper)), False, word)

    def test_strange_things(self):
        for machine, pattern, (word, paper) in (self.SEES, self.BLIND):
            for thing in STRANGE_THINGS:
                for wrong in (
                    thing, (thing, paper), (word, thing), (thing, thing), (word, (thing, thing)), (word, (thing, *paper[1:])),
                    (word, (*paper, thing)), ("sees", thing), ("blind", thing), ("sees", ((thing, 0), (0, 1))),
                    ("sees", ((1, thing), (0, 1))), ("blind", (thing, 1)), ("blind", (0, thing)),
                ):
                    told = shows_judged(machine, pattern, wrong)
                    self.assertIs(told, self.is_right(word, wrong), repr(wrong))

    def is_right(self, word, thing):
        """Of strange things only 0 and 1 themselves make up what is right; repr tells them from truths."""
        return repr(thing) == {"sees": repr(self.SEES[2]), "blind": repr(self.BLIND[2])}[word]

    def test_objects_that_are_like_all(self):
        for machine, pattern, (word, paper) in (self.SEES, self.BLIND):
            wrongs = [LikeAll(), (LikeAll(), paper), (word, LikeAll()), (LikeAll(), LikeAll())]
            wrongs += [(word, with_other(paper, at, LikeAll())) for at in range(len(paper))]
            for wrong in wrongs:
                self.assertIs(shows_judged(machine, pattern, wrong), False)

    def test_nested_deep(self):
        for machine, pattern, (word, paper) in (self.SEES, self.BLIND):
            for deep in (1, 2, 15, 28):
                for thing in (nested(deep, (word, paper)), (word, nested(deep, paper)), (nested(deep, word), paper)):
                    self.assertIs(shows_judged(machine, pattern, thing), False)
            for deep in range(27):
                self.assertIs(shows_judged(machine, pattern, (word, nested(deep, 1))), False)

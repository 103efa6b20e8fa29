"""Points 12 and 13: numbers of words, rules, cycles."""

import itertools
import unittest

from tests.helpers import STRANGE_THINGS, is_plain, naive_words, nested
from windowfloor.leastrows import least_row
from windowfloor.otherrows import greatest_row, walked_row
from windowfloor.rules import cycles, is_rule, number_of, rule_of, turning_rule, word_of

SIZES = [(1, 1), (1, 2), (1, 40), (2, 1), (2, 2), (2, 3), (2, 4), (2, 9), (3, 2), (3, 5), (5, 1), (8, 3), (24, 2), (600, 1)]
TINY_SIZES = [(1, 1), (1, 3), (2, 1), (2, 2), (2, 3), (3, 1), (4, 1)]


def naive_followers(k, n, rule):
    return [(*word, put)[1:] for word, put in zip(naive_words(k, n), rule)]


def naive_cycles(k, n, rule):
    words = naive_words(k, n)
    follower = dict(zip(words, naive_followers(k, n, rule)))
    told, left = [], set(words)
    while left:
        word, row = min(left), []
        while word in left:
            left.remove(word)
            row.append(word[0])
            word = follower[word]
        told.append(tuple(row))
    return tuple(told)


class Numbers(unittest.TestCase):
    def test_by_hand(self):
        self.assertEqual(number_of((1, 2, 0), 3), 15)
        self.assertEqual(number_of((0, 0, 1), 2), 1)
        self.assertEqual(number_of((1, 0, 0), 2), 4)
        self.assertEqual(number_of((599,), 600), 599)
        self.assertEqual(word_of(15, 3, 3), (1, 2, 0))
        self.assertEqual(word_of(1, 2, 3), (0, 0, 1))
        self.assertEqual(word_of(0, 1, 40), (0,) * 40)
        self.assertEqual(word_of(511, 2, 9), (1,) * 9)

    def test_each_word(self):
        for k, n in SIZES:
            for number, word in enumerate(naive_words(k, n)):
                self.assertEqual(number_of(word, k), number)
                self.assertEqual(word_of(number, k, n), word)
                self.assertTrue(is_plain(word_of(number, k, n)))


class IsRule(unittest.TestCase):
    def test_as_the_definition(self):
        for k, n in TINY_SIZES:
            for rule in itertools.product(range(k), repeat=k ** n):
                even = len(set(naive_followers(k, n, rule))) == k ** n
                self.assertIs(is_rule(k, n, rule), even)

    def test_numbers_out_of_bounds(self):
        for number in (-1, 2, 3, 599, 10 ** 6):
            self.assertIs(is_rule(2, 1, (0, number)), False)
            self.assertIs(is_rule(2, 2, (0, 0, 1, number)), False)
        # These would lead to unlike words, were they rests.
        self.assertIs(is_rule(2, 1, (2, 3)), False)
        self.assertIs(is_rule(2, 1, (0, -1)), False)

    def test_too_few_and_too_many(self):
        self.assertIs(is_rule(2, 1, (0, 1)), True)
        for thing in ((), (0,), (1,), (0, 1, 0), (0, 1, 0, 1), (0, 1, 1, 0)):
            self.assertIs(is_rule(2, 1, thing), False)
        self.assertIs(is_rule(1, 40, (0,)), True)
        self.assertIs(is_rule(1, 40, (0, 0)), False)
        self.assertIs(is_rule(1, 40, ()), False)

    def test_600_words_and_more(self):
        self.assertIs(is_rule(600, 1, tuple(range(600))), True)
        self.assertIs(is_rule(600, 1, tuple(range(600))[::-1]), True)
        self.assertIs(is_rule(600, 1, tuple(range(599)) + (0,)), False)
        self.assertIs(is_rule(600, 1, tuple(range(1, 601))), False)
        for k, n in ((600, 40), (600, 2), (2, 10), (25, 2)):
            for thing in ((), (0,), (0,) * 600, tuple(range(600)), None):
                self.assertIs(is_rule(k, n, thing), False)
        self.assertIs(is_rule(601, 1, tuple(range(601))), False)

    def test_strange_things(self):
        for thing in STRANGE_THINGS:
            for k, n in ((1, 1), (2, 1), (2, 2), (3, 2), (600, 1), (600, 40)):
                self.assertIs(is_rule(k, n, thing), False, repr(thing))
            is_nought = type(thing) is int and thing == 0
            self.assertIs(is_rule(1, 3, (thing,)), is_nought, repr(thing))
            self.assertIs(is_rule(2, 1, (thing, 1)), is_nought, repr(thing))
            self.assertIs(is_rule(2, 1, (1, thing)), is_nought, repr(thing))

    def test_kinds(self):
        self.assertIs(is_rule(2, 2, (0, 0, 1, 1)), True)
        for thing in ([0, 0, 1, 1], (0, 0, 1, True), (False, 0, 1, 1), ((0,), 0, 1, 1), (0, 0, 1, "1"), (0, 0, 1, None), "0011",
                      nested(27, (0, 0, 1, 1)), ((0, 0, 1, 1),)):
            self.assertIs(is_rule(2, 2, thing), False, thing)


class TurningRule(unittest.TestCase):
    def test_by_hand(self):
        self.assertEqual(turning_rule(2, 2), (0, 0, 1, 1))
        self.assertEqual(turning_rule(3, 1), (0, 1, 2))
        self.assertEqual(turning_rule(1, 40), (0,))
        self.assertEqual(turning_rule(600, 1), tuple(range(600)))

    def test_as_the_definition(self):
        for k, n in SIZES:
            told = turning_rule(k, n)
            self.assertEqual(told, tuple(word[0] for word in naive_words(k, n)))
            self.assertIs(is_rule(k, n, told), True)
            self.assertTrue(is_plain(told))

    def test_words_go_round_by_turns(self):
        for k, n in SIZES:
            turns = {min(word[by:] + word[:by] for by in range(n)) for word in naive_words(k, n)}
            self.assertEqual(len(cycles(k, n, turning_rule(k, n))), len(turns))


class RuleOf(unittest.TestCase):
    def test_by_hand(self):
        self.assertEqual(rule_of((0, 0, 1, 1), 2, 2), (1, 1, 0, 0))
        self.assertEqual(rule_of((2, 0, 1), 3, 1), (1, 2, 0))
        self.assertEqual(rule_of((0,), 1, 40), (0,))

    def test_as_the_definition(self):
        for maker, (k, n) in itertools.product((least_row, greatest_row, walked_row), SIZES):
            row = maker(k, n)
            told = rule_of(row, k, n)
            self.assertIs(is_rule(k, n, told), True)
            self.assertTrue(is_plain(told))
            words = naive_words(k, n)
            round_row = row * (n + 2)
            for at in range(len(row)):
                self.assertEqual(told[words.index(round_row[at:at + n])], round_row[at + n])

    def test_its_one_cycle_is_the_row(self):
        for maker, (k, n) in itertools.product((least_row, greatest_row, walked_row), SIZES):
            row = maker(k, n)
            self.assertEqual(cycles(k, n, rule_of(row, k, n)), (row,))


class Cycles(unittest.TestCase):
    def test_by_hand(self):
        self.assertEqual(cycles(2, 3, turning_rule(2, 3)), ((0,), (0, 0, 1), (0, 1, 1), (1,)))
        self.assertEqual(cycles(3, 1, (0, 2, 1)), ((0,), (1, 2)))
        self.assertEqual(cycles(1, 40, (0,)), ((0,),))
        self.assertEqual(cycles(600, 1, tuple(range(600))), tuple((number,) for number in range(600)))

    def test_as_the_definition(self):
        for k, n in TINY_SIZES:
            for rule in itertools.product(range(k), repeat=k ** n):
                if len(set(naive_followers(k, n, rule))) == k ** n:
                    told = cycles(k, n, rule)
                    self.assertEqual(told, naive_cycles(k, n, rule))
                    self.assertTrue(is_plain(told))

    def test_each_word_stands_once_in_one_of_them(self):
        for k, n in SIZES:
            words = []
            for row in cycles(k, n, turning_rule(k, n)):
                words += [(row * (n + 1))[at:at + n] for at in range(len(row))]
            self.assertEqual(sorted(words), naive_words(k, n))

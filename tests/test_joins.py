"""Point 14: cycles joined to one, and what shows it."""

import itertools
import random
import unittest

from tests.helpers import STRANGE_THINGS, is_plain, naive_words, nested, some_rule
from windowfloor.joinlooks import shows_joins
from windowfloor.joins import joined
from windowfloor.leastrows import least_row
from windowfloor.otherrows import greatest_row
from windowfloor.rules import cycles, is_rule, rule_of, turning_rule
from windowfloor.words import is_full_row

SIZES = [
    (1, 1), (1, 2), (1, 40), (2, 1), (2, 2), (2, 4), (2, 9), (3, 2), (3, 5), (4, 4), (5, 3), (8, 3), (24, 2), (599, 1),
    (600, 1),
]
TINY_SIZES = [(1, 1), (1, 3), (2, 1), (2, 2), (2, 3), (3, 1), (3, 2), (4, 1)]


def naive_cycle(put_behind, word):
    told = [word]
    while (*told[-1], put_behind[told[-1]])[1:] != word:
        told.append((*told[-1], put_behind[told[-1]])[1:])
    return told


def naive_shows(k, n, rule, row, joins):
    words = naive_words(k, n)
    put_behind = dict(zip(words, rule))
    for one, other in joins:
        if not 0 <= one < other < len(words) or words[one][1:] != words[other][1:]:
            return False
        one, other = words[one], words[other]
        if other in naive_cycle(put_behind, one):
            return False
        put_behind[one], put_behind[other] = put_behind[other], put_behind[one]
    left = naive_cycle(put_behind, words[0])
    return len(left) == len(words) and row == tuple(word[0] for word in left)


def all_rules(k, n):
    orders = list(itertools.permutations(range(k)))
    for told in itertools.product(orders, repeat=k ** (n - 1)):
        yield tuple(told[low][first] for first in range(k) for low in range(k ** (n - 1)))


def some_joins(k, n, rule, chance):
    """Joins made in any order, and the row that they leave."""
    rule, joins = list(rule), []
    words, worth = naive_words(k, n), k ** (n - 1)
    while len(cycles(k, n, tuple(rule))) > 1:
        low = chance.randrange(worth)
        one, other = sorted(low + worth * first for first in chance.sample(range(k), 2))
        if words[other] not in naive_cycle(dict(zip(words, rule)), words[one]):
            rule[one], rule[other] = rule[other], rule[one]
            joins.append((one, other))
    return (cycles(k, n, tuple(rule))[0], tuple(joins))


def edge_rules(k, n):
    """Rules of one cycle, of as many as may be, and one of any sort."""
    rules = [rule_of(least_row(k, n), k, n), rule_of(greatest_row(k, n), k, n), turning_rule(k, n)]
    return rules + [some_rule(k, n, random.Random(k * 100 + n))]


class Joined(unittest.TestCase):
    def test_by_hand(self):
        self.assertEqual(joined(1, 40, (0,)), ((0,), ()))
        self.assertEqual(joined(2, 1, (0, 1)), ((0, 1), ((0, 1),)))
        self.assertEqual(joined(2, 2, (1, 1, 0, 0)), ((0, 0, 1, 1), ()))
        self.assertEqual(joined(2, 1, (1, 0)), ((0, 1), ()))

    def test_each_tiny_rule(self):
        for k, n in TINY_SIZES:
            for rule in all_rules(k, n):
                row, joins = joined(k, n, rule)
                self.assertTrue(naive_shows(k, n, rule, row, joins), rule)
                self.assertIs(shows_joins(k, n, rule, (row, joins)), True)
                self.assertTrue(is_plain((row, joins)))

    def test_up_to_600_words(self):
        for k, n in SIZES:
            for rule in edge_rules(k, n):
                told = joined(k, n, rule)
                self.assertEqual(len(told[1]), len(cycles(k, n, rule)) - 1)
                self.assertTrue(is_plain(told))
                self.assertIs(is_full_row(told[0], k, n), True)
                self.assertEqual(told[0][:n], (0,) * min(n, len(told[0])))
                self.assertIs(shows_joins(k, n, rule, told), True)
                self.assertEqual(joined(k, n, rule), told)

    def test_by_the_definition_up_to_600_words(self):
        for k, n in ((2, 9), (3, 5), (24, 2), (100, 1)):
            for rule in edge_rules(k, n):
                self.assertTrue(naive_shows(k, n, rule, *joined(k, n, rule)))

    def test_one_cycle_needs_no_joins(self):
        for k, n in SIZES:
            row = least_row(k, n)
            self.assertEqual(joined(k, n, rule_of(row, k, n)), (row, ()))

    def test_as_many_cycles_as_may_be(self):
        row, joins = joined(600, 1, tuple(range(600)))
        self.assertEqual(len(joins), 599)
        self.assertEqual(sorted(row), list(range(600)))


class ShowsJoins(unittest.TestCase):
    def test_each_tiny_thing(self):
        pairs = [(one, other) for one in range(-1, 5) for other in range(-1, 5)]
        some_joins_told = [(), *[(pair,) for pair in pairs], *itertools.product(pairs[7:], repeat=2)]
        rows = [(0, 0, 1, 1), (0, 1, 1, 0), (0, 0, 0, 1), (0,), (0, 0, 1)]
        for rule in all_rules(2, 2):
            for row, joins in itertools.product(rows, some_joins_told):
                self.assertIs(shows_joins(2, 2, rule, (row, joins)), naive_shows(2, 2, rule, row, joins), (rule, row, joins))

    def test_each_pair_of_the_turning_rule(self):
        rule = turning_rule(3, 1)
        pairs = list(itertools.product(range(-1, 4), repeat=2))
        for row in itertools.permutations(range(3)):
            for joins in itertools.product(pairs, repeat=2):
                self.assertIs(shows_joins(3, 1, rule, (row, joins)), naive_shows(3, 1, rule, row, joins), (row, joins))

    def test_joins_other_than_told(self):
        chance = random.Random(14)
        for k, n in ((2, 3), (2, 5), (3, 2), (3, 3), (7, 1), (5, 2)):
            for rule in (turning_rule(k, n), some_rule(k, n, chance), some_rule(k, n, chance)):
                told = some_joins(k, n, rule, chance)
                self.assertIs(shows_joins(k, n, rule, told), True)

    def test_pairs_changed(self):
        chance = random.Random(15)
        for k, n in ((2, 4), (3, 3), (9, 1), (4, 2)):
            rule = turning_rule(k, n)
            row, joins = joined(k, n, rule)
            for at, (one, other) in enumerate(joins):
                ahead, behind = joins[:at], joins[at + 1:]
                for wrong in (
                    ahead + ((other, one),) + behind, ahead + behind, ahead + ((one, other),) * 2 + behind,
                    joins + ((one, other),), ahead + ((one, one),) + behind, ahead + ((one, other + 1),) + behind,
                    ahead + ((one, k ** n),) + behind, ahead + ((one - k ** n, other),) + behind,
                    ahead + ((one, other, 0),) + behind, ahead + ((one,),) + behind, ahead + ((),) + behind,
                    ahead + (None,) + behind, ahead + (one,) + behind, ahead + ([one, other],) + behind,
                    ahead + ((one, None),) + behind, ahead + (("0", other),) + behind, ahead + (((one, other),),) + behind,
                    ahead + (nested(20, one),) + behind,
                ):
                    self.assertIs(shows_joins(k, n, rule, (row, wrong)), False, wrong)
                    self.assertIs(shows_joins(k, n, rule, (row, list(wrong))), False)
            # Rightly made, but of another row.
            other_row, other_joins = some_joins(k, n, rule, chance)
            while other_row == row:
                other_row, other_joins = some_joins(k, n, rule, chance)
            self.assertIs(shows_joins(k, n, rule, (other_row, joins)), False)
            self.assertIs(shows_joins(k, n, rule, (row, other_joins)), False)

    def test_words_that_are_not_kin(self):
        rule = turning_rule(2, 2)
        self.assertIs(shows_joins(2, 2, rule, ((0, 0, 1, 1), ((0, 2), (1, 3)))), True)
        self.assertIs(shows_joins(2, 2, rule, ((0, 0, 1, 1), ((0, 1), (1, 3)))), False)
        self.assertIs(shows_joins(2, 2, rule, ((0, 0, 1, 1), ((0, 3), (1, 3)))), False)
        self.assertIs(shows_joins(2, 2, rule, ((0, 0, 1, 1), ((0, 2), (2, 3)))), False)

    def test_words_of_one_cycle_by_then(self):
        # Twice the same exchange would leave the rule as it was, one cycle.
        rule = rule_of((0, 0, 1, 1), 2, 2)
        self.assertIs(shows_joins(2, 2, rule, ((0, 0, 1, 1), ())), True)
        for pair in ((0, 2), (1, 3)):
            self.assertIs(shows_joins(2, 2, rule, ((0, 0, 1, 1), (pair, pair))), False)
        # 0 and 2 are of unlike cycles at first, but no more behind the other two exchanges.
        rule = turning_rule(3, 1)
        self.assertIs(shows_joins(3, 1, rule, ((0, 1, 2), ((0, 1), (1, 2)))), True)
        self.assertIs(shows_joins(3, 1, rule, ((0, 2, 1), ((0, 1), (0, 2)))), True)
        for row in itertools.permutations(range(3)):
            self.assertIs(shows_joins(3, 1, rule, (row, ((0, 1), (1, 2), (0, 2)))), False)
            self.assertIs(shows_joins(3, 1, rule, (row, ((0, 1), (0, 1)))), False)
            self.assertIs(shows_joins(3, 1, rule, (row, ((0, 1),))), False)

    def test_rows_changed(self):
        for k, n in ((2, 3), (3, 2), (5, 1)):
            rule = turning_rule(k, n)
            row, joins = joined(k, n, rule)
            for by in range(1, len(row)):
                self.assertIs(shows_joins(k, n, rule, (row[by:] + row[:by], joins)), False)
            for wrong in (
                (), row[1:], row[:-1], row + row, row + (0,), row[::-1] + (1,), list(row), None, "0", 0, nested(29, 0), (row,),
            ):
                self.assertIs(shows_joins(k, n, rule, (wrong, joins)), False)
            for at in range(len(row)):
                for wrong in (-1, k, None, "0", True, False, (0,), [], 10 ** 6):
                    self.assertIs(shows_joins(k, n, rule, (row[:at] + (wrong,) + row[at + 1:], joins)), False)

    def test_truths_are_no_numbers(self):
        self.assertIs(shows_joins(2, 1, (0, 1), ((0, 1), ((0, 1),))), True)
        for thing in (
            ((False, 1), ((0, 1),)), ((0, True), ((0, 1),)), ((0, 1), ((False, 1),)), ((0, 1), ((0, True),)),
            ((0, 1), ((False, True),)), ((False, True), ((0, 1),)), (True, True), (True, ((0, 1),)), ((0, 1), True),
        ):
            self.assertIs(shows_joins(2, 1, (0, 1), thing), False, thing)
        self.assertIs(shows_joins(1, 40, (0,), ((False,), ())), False)

    def test_lists_are_no_tuples(self):
        self.assertIs(shows_joins(2, 1, (0, 1), ((0, 1), ((0, 1),))), True)
        for thing in (
            [(0, 1), ((0, 1),)], ([0, 1], ((0, 1),)), ((0, 1), [(0, 1)]), ((0, 1), ([0, 1],)), [[0, 1], [[0, 1]]],
        ):
            self.assertIs(shows_joins(2, 1, (0, 1), thing), False, thing)
        self.assertIs(shows_joins(1, 2, (0,), ([0], ())), False)
        self.assertIs(shows_joins(1, 2, (0,), ((0,), [])), False)

    def test_too_few_and_too_many_parts(self):
        row, joins = joined(2, 3, turning_rule(2, 3))
        for thing in (
            (), (row,), (joins,), (row, joins, ()), (row, joins, joins), (row, joins, None), (joins, row), row, joins,
            (row, *joins),
        ):
            self.assertIs(shows_joins(2, 3, turning_rule(2, 3), thing), False, thing)

    def test_strange_things(self):
        rule = turning_rule(2, 2)
        row, joins = joined(2, 2, rule)
        one_cycle = rule_of(row, 2, 2)
        for thing in STRANGE_THINGS:
            for k, n, told in ((2, 2, rule), (2, 2, one_cycle), (1, 40, (0,)), (2, 1, (0, 1)), (600, 1, tuple(range(600)))):
                self.assertIs(shows_joins(k, n, told, thing), False, repr(thing))
                self.assertIs(shows_joins(k, n, told, (thing, thing)), False, repr(thing))
            self.assertIs(shows_joins(2, 2, rule, (thing, joins)), False, repr(thing))
            self.assertIs(shows_joins(2, 2, rule, (row, thing)), False, repr(thing))
            self.assertIs(shows_joins(2, 2, rule, (row, (thing, *joins[1:]))), False, repr(thing))
            self.assertIs(shows_joins(2, 2, rule, (row, (*joins, thing))), False, repr(thing))
            is_one = type(thing) is int and thing == 1
            self.assertIs(shows_joins(2, 2, rule, ((0, 0, 1, 1), ((0, 2), (thing, 3)))), is_one, repr(thing))
            no_joins = type(thing) is tuple and thing == ()
            self.assertIs(shows_joins(2, 2, one_cycle, (row, thing)), no_joins, repr(thing))

    def test_rules_that_are_not_even(self):
        for rule in ((0, 0, 0, 0), (0, 1, 0, 1), (1, 0, 0), (), None, [0, 0, 1, 1]):
            self.assertIs(is_rule(2, 2, rule), False)
            self.assertIs(shows_joins(2, 2, rule, ((0, 0, 1, 1), ((0, 2),))), False)

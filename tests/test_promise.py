"""Point 3, the promise, whole, and point 2 with it."""

import itertools
import random
import unittest

from tests.helpers import (
    FLOORS, SHAPES, TORN_CASES, all_filled, all_states, coprime_sizes, holes_of, is_naively_whole, places, some_floor, some_laid,
    some_rule, some_shape, some_torn, some_whole, with_told,
)
from windowfloor.bars import barred, most_places
from windowfloor.desk import Desk
from windowfloor.filling import filled
from windowfloor.filllooks import shows_filled
from windowfloor.folding import folded, pattern_of, read_folded
from windowfloor.joinlooks import shows_joins
from windowfloor.joins import joined
from windowfloor.laying import laid
from windowfloor.leaning import read_laid
from windowfloor.leastrows import least_row
from windowfloor.machines import is_greatest, machine_row
from windowfloor.moves import moved_floor, moved_place, moved_seen, moved_shape
from windowfloor.otherrows import greatest_row, walked_row
from windowfloor.pairing import paired, read_paired
from windowfloor.reading import read_floor, read_row, read_seen, read_shape, read_torn
from windowfloor.seeing import judged, shown
from windowfloor.seelooks import shows_judged
from windowfloor.shapes import box
from windowfloor.shifts import beside, kept_by, least_of
from windowfloor.showing import show_floor, show_row, show_seen, show_shape, show_torn
from windowfloor.tearing import apart, bears, nearest
from windowfloor.windows import places_of, twins, window
from windowfloor.words import is_full_row, row_twins

MOVES = [("shift", 1, 2), ("shift", -10 ** 6, 10 ** 6), ("cross",), ("flip",), ("signs", tuple(range(36))[::-1])]


class Whole(unittest.TestCase):
    """(a)"""

    def test_no_twins_or_the_first_two(self):
        for floor, shape in itertools.product(FLOORS, SHAPES):
            told = twins(floor, shape)
            alike = [places_of(floor, shape, window(floor, shape, place)) for place in places(floor)]
            if told is None:
                self.assertTrue(all(len(found) == 1 for found in alike))
            else:
                self.assertEqual(told, min(found[:2] for found in alike if len(found) > 1))


class FullRows(unittest.TestCase):
    """(b)"""

    def test_rows_made_by_unlike_ways_are_full(self):
        for k, n in ((1, 1), (1, 40), (2, 1), (2, 9), (3, 5), (4, 4), (5, 3), (24, 2), (600, 1)):
            for row in (least_row(k, n), greatest_row(k, n), walked_row(k, n)):
                self.assertIs(is_full_row(row, k, n), True)
                self.assertIsNone(row_twins(row, n))

    def test_the_joined_row_of_any_even_rule_is_full(self):
        chance = random.Random(3)
        for k, n in ((1, 1), (1, 40), (2, 1), (2, 6), (2, 9), (3, 4), (4, 4), (5, 3), (24, 2), (600, 1)):
            for count in range(5):
                rule = some_rule(k, n, chance)
                row, joins = joined(k, n, rule)
                self.assertIs(is_full_row(row, k, n), True)
                self.assertIs(shows_joins(k, n, rule, (row, joins)), True)
                if k > 1:
                    self.assertIs(shows_joins(k, n, rule, (row, joins + ((0, k ** (n - 1)),))), False)


class LaidFloors(unittest.TestCase):
    """(c), what is said of laid floors"""

    def test_whole_for_each_shape_that_leans_and_read_by_parts(self):
        chance = random.Random(4)
        for base, steps, a, b, shape in some_laid(chance, 200):
            floor = laid(base, steps)
            self.assertIsNone(twins(floor, shape))
            for seen in [window(floor, shape, place) for place in places(floor)]:
                self.assertEqual((read_laid(base, steps, a, b, shape, seen),), places_of(floor, shape, seen))
            for count in range(20):
                seen = tuple(chance.randrange(3) for cell in shape)
                told = read_laid(base, steps, a, b, shape, seen)
                self.assertEqual(() if told is None else (told,), places_of(floor, shape, seen))


class PairedFloors(unittest.TestCase):
    """(c), what is said of paired floors"""

    def test_whole_where_both_are_and_read_by_parts(self):
        chance = random.Random(5)
        for count in range(150):
            shape = some_shape(chance, 3, 3, 5)
            one, other = some_whole(chance, shape, 5), some_whole(chance, shape, 7)
            floor = paired(one, other, 7)
            self.assertIsNone(twins(floor, shape))
            for seen in [window(floor, shape, place) for place in places(floor)]:
                self.assertEqual((read_paired(one, other, 7, shape, seen),), places_of(floor, shape, seen))
            for count in range(20):
                seen = tuple(chance.randrange(36) for cell in shape)
                told = read_paired(one, other, 7, shape, seen)
                self.assertEqual(() if told is None else (told,), places_of(floor, shape, seen))


class TornAndWrong(unittest.TestCase):
    """(d)"""

    def some_pairs(self):
        chance = random.Random(6)
        pairs = [(floor, shape) for floor in FLOORS for shape in SHAPES if len(places(floor)) > 1 and len(shape) < 6]
        pairs += [(some_whole(chance, shape, 3), shape) for shape in SHAPES[2:10] for count in range(6)]
        return [(floor, shape) for floor, shape in pairs if len(places(floor)) > 1]

    def torn(self, seen, cells):
        return tuple(None if at in cells else sign for at, sign in enumerate(seen))

    def test_all_places_that_fit_are_told(self):
        for floor, shape in self.some_pairs():
            seen = window(floor, shape, (0, 0))
            for many in range(len(shape) + 1):
                for cells in itertools.combinations(range(len(shape)), many):
                    torn = self.torn(seen, cells)
                    wanted = []
                    for place in places(floor):
                        if self.torn(window(floor, shape, place), cells) == torn:
                            wanted.append(place)
                    self.assertEqual(places_of(floor, shape, torn), tuple(wanted))

    def test_one_place_where_no_more_are_torn_than_are_borne(self):
        for floor, shape in self.some_pairs():
            for place in places(floor):
                for many in range(bears(floor, shape) + 1):
                    for cells in itertools.combinations(range(len(shape)), many):
                        torn = self.torn(window(floor, shape, place), cells)
                        self.assertEqual(places_of(floor, shape, torn), (place,))

    def test_two_places_for_some_window_and_one_more(self):
        for floor, shape in self.some_pairs():
            many, one, other = apart(floor, shape)
            self.assertEqual(many, bears(floor, shape) + 1)
            both = zip(window(floor, shape, one), window(floor, shape, other))
            cells = [at for at, (sign, other_sign) in enumerate(both) if sign != other_sign]
            self.assertEqual(len(cells), many)
            found = places_of(floor, shape, self.torn(window(floor, shape, one), cells))
            self.assertTrue({one, other} <= set(found))

    def test_the_nearest_place_is_the_right_one(self):
        chance = random.Random(7)
        done = 0
        for floor, shape in self.some_pairs():
            many = apart(floor, shape)[0]
            for torn_cells, wrong_cells in itertools.product(range(len(shape) + 1), repeat=2):
                if torn_cells + 2 * wrong_cells >= many or torn_cells + wrong_cells > len(shape):
                    continue
                for place in places(floor):
                    cells = chance.sample(range(len(shape)), torn_cells + wrong_cells)
                    seen = list(self.torn(window(floor, shape, place), cells[:torn_cells]))
                    for at in cells[torn_cells:]:
                        seen[at] = (seen[at] + chance.randint(1, 35)) % 36
                    self.assertEqual(nearest(floor, shape, tuple(seen)), (wrong_cells, (place,)))
                    done += wrong_cells > 0
        self.assertGreater(done, 20)


class SeesOrBlind(unittest.TestCase):
    """(e), its first half"""

    def test_a_paper_of_one_sort_only(self):
        chance = random.Random(8)
        for machine in ((2, (1, 1, 0)), (2, (1, 0, 1, 0)), (3, (1, 2)), (3, (2, 0, 1)), (5, (3, 1)), (7, (2, 5))):
            k, taps = machine
            for count in range(40):
                pattern = tuple(chance.randrange(12) for number in range(chance.randint(1, 6)))
                sort, paper = judged(machine, pattern)
                self.assertIs(shows_judged(machine, pattern, (sort, paper)), True)
                looks = {state: shown(machine, pattern, state) for state in all_states(machine)}
                unseen = [state for state in looks if any(state) and not any(looks[state])]
                if sort == "blind":
                    self.assertIn(paper, unseen)
                    self.assertLess(len(set(looks.values())), len(looks))
                else:
                    self.assertEqual((sort, unseen), ("sees", []))
                    self.assertEqual(len(set(looks.values())), len(looks))
                    for state, seen in looks.items():
                        told = tuple(sum(factor * sign for factor, sign in zip(factors, seen)) % k for factors in paper)
                        self.assertEqual(told, state)

    def test_no_paper_of_the_other_sort(self):
        for machine in ((2, (1, 1)), (2, (1, 0)), (3, (2,))):
            k, taps = machine
            for pattern in itertools.product(range(4), repeat=2):
                rows = list(itertools.product(range(k), repeat=2))
                papers = [("sees", paper) for paper in itertools.product(rows, repeat=len(taps))]
                states = [("blind", state) for state in all_states(machine)]
                right = {thing[0] for thing in papers + states if shows_judged(machine, pattern, thing)}
                self.assertEqual(right, {judged(machine, pattern)[0]})


class FoldedFloors(unittest.TestCase):
    """(e), its second half"""

    def test_whole_just_where_the_pattern_sees(self):
        chance = random.Random(9)
        sorts = []
        for k, m in ((2, 1), (2, 2), (2, 3), (2, 4), (2, 6), (3, 1), (3, 2), (3, 3), (5, 1), (5, 2), (7, 1), (7, 2)):
            machines = [machine for machine in self.all_machines(k, m) if is_greatest(machine)]
            for machine in chance.sample(machines, min(2, len(machines))):
                state = chance.choice(all_states(machine)[1:])
                row = machine_row(machine, state)
                for high, wide in coprime_sizes(len(row)):
                    floor = folded(row, high, wide)
                    for shape in SHAPES + [some_shape(chance, 3, 3, m + 1) for count in range(4)]:
                        sort, paper = judged(machine, pattern_of(shape, high, wide))
                        self.assertEqual(twins(floor, shape) is None, sort == "sees", (machine, high, wide, shape))
                        sorts.append(sort)
                        if sort == "sees":
                            place = chance.choice(places(floor))
                            seen = window(floor, shape, place)
                            self.assertEqual(read_folded(machine, state, high, wide, shape, paper, seen), place)
        self.assertGreater(min(sorts.count("sees"), sorts.count("blind")), 100)

    def all_machines(self, k, m):
        return [(k, taps) for taps in itertools.product(range(k), repeat=m) if taps[0] != 0]


class Bars(unittest.TestCase):
    """(f), what is said of how many places there are at most"""

    def test_no_whole_floor_has_more_places(self):
        chance = random.Random(10)
        done = 0
        for count in range(1500):
            k = chance.randint(1, 4)
            floor = some_floor(chance, 5, k)
            a, b = chance.randint(1, 4), chance.randint(1, 4)
            if twins(floor, box(a, b)) is None:
                done += 1
                self.assertLessEqual(len(places(floor)), most_places(k, a, b, len(floor), len(floor[0])))
                self.assertIs(barred(k, a, b, len(floor), len(floor[0])), False)
        self.assertGreater(done, 200)


class FilledFloors(unittest.TestCase):
    """(f), what is said of torn floors"""

    def all_trees(self, torn, k, deep):
        """All that looks like a tree of the torn floor, asking at most so many cells behind one another."""
        trees = [("twins", one, other) for one, other in itertools.combinations(places(torn), 2)]
        if deep > 0:
            below = self.all_trees(torn, k, deep - 1)
            for place, parts in itertools.product(holes_of(torn), itertools.product(below, repeat=k)):
                trees.append(("cell", place, parts))
        return trees

    def test_a_floor_or_a_tree_never_both(self):
        sorts = []
        for torn in (((None, None),), ((0, None),), ((0, 0),), ((0, None, 0),), ((0, None, 1),), ((None, 1, None),)):
            for shape in (box(1, 1), box(1, 2), ((0, 0), (0, 2))):
                floors = [("floor", floor) for floor in all_filled(torn, 2)]
                trees = [("tree", tree) for tree in self.all_trees(torn, 2, len(holes_of(torn)))]
                right = {thing[0] for thing in floors + trees if shows_filled(torn, 2, shape, thing)}
                sort = filled(torn, 2, shape)[0]
                self.assertEqual(right, {sort}, (torn, shape))
                sorts.append(sort)
        self.assertGreater(min(sorts.count("floor"), sorts.count("tree")), 3)

    def test_of_each_torn_floor_what_is_told_is_shown(self):
        chance = random.Random(11)
        cases = list(TORN_CASES)
        for count in range(100):
            k = chance.choice((2, 2, 3))
            cases.append((some_torn(chance, 5, k, 5), k, some_shape(chance, 3, 3, 5)))
        for torn, k, shape in cases:
            sort, thing = filled(torn, k, shape)
            self.assertIs(shows_filled(torn, k, shape, (sort, thing)), True)
            some_is_whole = any(is_naively_whole(floor, shape) for floor in all_filled(torn, k))
            self.assertEqual(sort, "floor" if some_is_whole else "tree")

    def test_of_barred_sizes_there_is_a_tree(self):
        done = 0
        for high, wide, a, b in itertools.product((1, 2, 3), (1, 2, 3, 4, 5, 6, 7, 8), (1, 2), (1, 2)):
            if high * wide <= 8 and barred(2, a, b, high, wide):
                done += 1
                torn = ((None,) * wide,) * high
                self.assertEqual(filled(torn, 2, box(a, b))[0], "tree", (high, wide, a, b))
        self.assertGreater(done, 20)

    def test_a_whole_floor_torn_is_filled(self):
        chance = random.Random(12)
        for shape in SHAPES[:10]:
            for count in range(5):
                floor = some_whole(chance, shape, 3)
                holes = chance.sample(places(floor), min(5, len(places(floor))))
                torn = with_told(floor, {place: None for place in holes})
                self.assertIs(shows_filled(torn, 3, shape, ("floor", floor)), True)
                self.assertEqual(filled(torn, 3, shape)[0], "floor")


class Moved(unittest.TestCase):
    """(g), its first half"""

    def test_moved_windows_at_moved_places(self):
        for move, floor, shape in itertools.product(MOVES, FLOORS, SHAPES):
            floor_then, shape_then = moved_floor(move, floor), moved_shape(move, shape)
            for place in places(floor):
                seen = window(floor, shape, place)
                place_then = moved_place(move, floor, shape, place)
                self.assertEqual(window(floor_then, shape_then, place_then), moved_seen(move, shape, seen))

    def test_torn_windows_fit_the_moved_places(self):
        for move, floor, shape in itertools.product(MOVES, FLOORS, SHAPES):
            seen = (None, *window(floor, shape, (0, 0))[1:])
            found = [moved_place(move, floor, shape, place) for place in places_of(floor, shape, seen)]
            seen_then = moved_seen(move, shape, seen)
            self.assertEqual(places_of(moved_floor(move, floor), moved_shape(move, shape), seen_then), tuple(sorted(found)))

    def test_a_moved_floor_is_whole_where_the_floor_is(self):
        for move, floor, shape in itertools.product(MOVES, FLOORS, SHAPES):
            told = twins(moved_floor(move, floor), moved_shape(move, shape))
            self.assertEqual(told is None, twins(floor, shape) is None)


class BesideItself(unittest.TestCase):
    """(g), what is said of a floor beside itself"""

    def test_each_window_stands_just_over_its_own(self):
        for floor, shape, (down, right) in itertools.product(FLOORS, SHAPES, ((1, 1), (2, 1), (1, 3), (3, 2))):
            high, wide = len(floor), len(floor[0])
            great = beside(floor, down, right)
            for place in places(floor):
                seen = window(floor, shape, place)
                over = []
                for r, c in places_of(floor, shape, seen):
                    over += [(r + high * a, c + wide * b) for a in range(down) for b in range(right)]
                self.assertEqual(places_of(great, shape, seen), tuple(sorted(over)))


class WrittenAndRead(unittest.TestCase):
    """(h), what is said of texts"""

    def test_what_is_written_is_read_as_it_was(self):
        chance = random.Random(13)
        for floor in FLOORS:
            self.assertEqual(read_floor(show_floor(floor)), floor)
        for torn, k, shape in TORN_CASES:
            self.assertEqual(read_torn(show_torn(torn)), torn)
        for shape in SHAPES:
            self.assertEqual(read_shape(show_shape(shape)), shape)
            seen = tuple(chance.choice((None, 0, 9, 10, 35)) for cell in shape)
            self.assertEqual(read_seen(show_seen(shape, seen)), (shape, seen))
        for k, n in ((1, 1), (2, 9), (24, 2), (600, 1)):
            self.assertEqual(read_row(show_row(least_row(k, n))), least_row(k, n))


class AtTheDesk(unittest.TestCase):
    """(h), what is said of the desk"""

    def told(self, found):
        return " ".join(f"{r},{c}" for r, c in found) or "-"

    def test_the_desk_answers_as_all_these_do(self):
        chance = random.Random(14)
        for floor in FLOORS:
            desk = Desk(show_floor(floor))
            for count in range(6):
                move = chance.choice(MOVES)
                words = [str(number) for number in move[1:]] if move[0] == "shift" else [show_row(order) for order in move[1:]]
                if "-1000000" not in words:
                    self.assertEqual(desk.say(" ".join([move[0], *words])), "done")
                    floor = moved_floor(move, floor)
                self.assertEqual(desk.say("show"), show_floor(floor))
                self.assertEqual(desk.say("keeps"), self.told(kept_by(floor)))
                self.assertEqual(desk.say("least"), show_floor(least_of(floor)[0]))
                shape = chance.choice(SHAPES)
                pair = twins(floor, shape)
                self.assertEqual(desk.say(f"whole {show_shape(shape)}"), "whole" if pair is None else self.told(pair))
                seen = tuple(chance.choice((None, sign)) for sign in window(floor, shape, chance.choice(places(floor))))
                self.assertEqual(desk.say(f"where {show_seen(shape, seen)}"), self.told(places_of(floor, shape, seen)))

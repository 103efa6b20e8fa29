"""The section "The interface": each name stands in its module and takes as many arguments as it is asked with."""

import importlib
import inspect
import unittest

INTERFACE = {
    "floors": {"is_floor": 1, "is_place": 2, "size": 1},
    "shapes": {"is_shape": 1, "box": 2},
    "windows": {"window": 3, "places_of": 3, "twins": 2, "is_full": 3},
    "moves": {"is_move": 1, "moved_floor": 2, "moved_shape": 2, "moved_place": 4, "moved_seen": 3, "back": 1},
    "shifts": {"beside": 3, "kept_by": 1, "least_of": 1, "led": 2},
    "words": {"is_row": 1, "word_at": 3, "row_twins": 2, "is_full_row": 3},
    "leastrows": {"least_words": 2, "least_row": 2},
    "otherrows": {"greatest_row": 2, "walked_row": 2},
    "rules": {"number_of": 2, "word_of": 3, "is_rule": 3, "turning_rule": 2, "rule_of": 3, "cycles": 3},
    "joins": {"joined": 3},
    "joinlooks": {"shows_joins": 4},
    "laying": {"laid": 2, "evened": 2, "full_floor": 3},
    "leaning": {"leans": 3, "read_laid": 6},
    "pairing": {"meeting": 4, "paired": 3, "read_paired": 5},
    "tearing": {"apart": 2, "bears": 2, "nearest": 3},
    "parts": {"least_parts": 2, "least_tears": 2, "least_boxes": 2},
    "machines": {"is_machine": 1, "stepped": 3, "machine_row": 2, "order": 1, "is_greatest": 1},
    "seeing": {"shown": 3, "judged": 2},
    "seelooks": {"shows_judged": 3},
    "folding": {"folded": 3, "pattern_of": 3, "read_folded": 7},
    "bars": {"most_places": 5, "barred": 5},
    "filling": {"filled": 3},
    "filllooks": {"shows_filled": 4},
    "showing": {"show_floor": 1, "show_torn": 1, "show_shape": 1, "show_seen": 2, "show_row": 1},
    "reading": {"read_floor": 1, "read_torn": 1, "read_shape": 1, "read_seen": 1, "read_row": 1},
    "desk": {"Desk": 1},
}


class Interface(unittest.TestCase):
    def test_names_and_arguments(self):
        for stem, names in INTERFACE.items():
            module = importlib.import_module(f"windowfloor.{stem}")
            for name, many in names.items():
                thing = getattr(module, name)
                self.assertEqual(thing.__module__, f"windowfloor.{stem}", name)
                self.assertEqual(len(inspect.signature(thing).parameters), many, name)

    def test_say(self):
        desk = importlib.import_module("windowfloor.desk").Desk
        self.assertIn("say", vars(desk))
        self.assertEqual(len(inspect.signature(desk("0").say).parameters), 1)

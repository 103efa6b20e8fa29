"""The refusals of the interface, and of point 2 how they stand to one another."""

import unittest

from windowfloor import errors
from windowfloor.errors import FloorError, NoLine, NotRound, NoText, NoWay, TooGreat


class Errors(unittest.TestCase):
    def test_floor_error_is_straight_under_value_error(self):
        self.assertEqual(FloorError.__bases__, (ValueError,))

    def test_refusals_are_straight_under_floor_error(self):
        for refusal in (NotRound, NoWay, TooGreat, NoText, NoLine):
            self.assertEqual(refusal.__bases__, (FloorError,))

    def test_there_are_no_others(self):
        classes = [name for name, told in vars(errors).items() if isinstance(told, type)]
        self.assertEqual(sorted(classes), ["FloorError", "NoLine", "NoText", "NoWay", "NotRound", "TooGreat"])

    def test_each_is_caught_as_a_floor_error(self):
        for refusal in (NotRound, NoWay, TooGreat, NoText, NoLine):
            with self.assertRaises(FloorError):
                raise refusal("why")

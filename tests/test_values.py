"""Promise 2: arguments stay as they are, results are new, arguments by position or by name."""

import copy
import unittest

from lastother.calls import color_taken, colors_taken, colors_taken_by_each, lineup_after, shorten_calls
from lastother.errors import InvalidCallsError, InvalidColorError, InvalidLineupError, InvalidPersonError
from lastother.lineups import (
    color_runs, colors_in_order, count_of, front_color, is_lineup, people_ahead_of, second_color,
)
from tests.helpers import L

# The same people in another order and with other colors.
OTHER = [(2, "b"), (1, "b"), (0, "d"), (3, "a")]

# function, arguments by name, result, the name of a list, what it is changed to, result then
CASES = [
    (is_lineup, {"value": L}, True, "value", [(0, "a"), (0, "a")], False),
    (front_color, {"lineup": L}, "a", "lineup", OTHER, "b"),
    (second_color, {"lineup": L}, "b", "lineup", OTHER, "d"),
    (color_runs, {"lineup": L}, [("a", 1), ("b", 1), ("c", 1), ("a", 1)],
     "lineup", OTHER, [("b", 2), ("d", 1), ("a", 1)]),
    (colors_in_order, {"lineup": L}, "abc", "lineup", OTHER, "bda"),
    (count_of, {"lineup": L, "color": "a"}, 2, "lineup", OTHER, 1),
    (people_ahead_of, {"lineup": L, "color": "a"}, 0, "lineup", OTHER, 3),
    (color_taken, {"lineup": L, "person": 0}, "b", "lineup", [(0, "a"), (1, "d")], "d"),
    (colors_taken_by_each, {"lineup": L}, ["b", "a", "a", "b"], "lineup", OTHER, ["b", "d", "d", "b"]),
    (colors_taken, {"lineup": L, "calls": [1, 0]}, ["a", "c"], "lineup", OTHER, ["d", "b"]),
    (colors_taken, {"lineup": L, "calls": [1, 0]}, ["a", "c"], "calls", [0, 2, 0], ["b", "b", "a"]),
    (lineup_after, {"lineup": L, "calls": [1, 0]}, [(0, "c"), (1, "a"), (2, "c"), (3, "a")],
     "lineup", OTHER, [(0, "b"), (1, "d"), (2, "b"), (3, "a")]),
    (lineup_after, {"lineup": L, "calls": [1, 0]}, [(0, "c"), (1, "a"), (2, "c"), (3, "a")],
     "calls", [0], [(0, "b"), (1, "b"), (2, "c"), (3, "a")]),
    (lineup_after, {"lineup": L, "calls": []}, L, "lineup", OTHER, OTHER),
    (shorten_calls, {"calls": [0, 0, 0, 1]}, [0, 1], "calls", [2, 2], [2, 2]),
    (shorten_calls, {"calls": [0, 1]}, [0, 1], "calls", [], []),
]

WRONG = [(0, "a"), (2, "b"), (1, "B")]

# function, arguments by name, the error
FAILURES = [
    (front_color, {"lineup": WRONG}, InvalidLineupError),
    (second_color, {"lineup": WRONG}, InvalidLineupError),
    (color_runs, {"lineup": WRONG}, InvalidLineupError),
    (colors_in_order, {"lineup": WRONG}, InvalidLineupError),
    (count_of, {"lineup": WRONG, "color": "a"}, InvalidLineupError),
    (count_of, {"lineup": L, "color": "A"}, InvalidColorError),
    (people_ahead_of, {"lineup": WRONG, "color": "a"}, InvalidLineupError),
    (people_ahead_of, {"lineup": L, "color": ["a"]}, InvalidColorError),
    (color_taken, {"lineup": WRONG, "person": 0}, InvalidLineupError),
    (color_taken, {"lineup": L, "person": [4]}, InvalidPersonError),
    (colors_taken_by_each, {"lineup": WRONG}, InvalidLineupError),
    (colors_taken, {"lineup": WRONG, "calls": [0]}, InvalidLineupError),
    (colors_taken, {"lineup": L, "calls": [1, 0, 4]}, InvalidCallsError),
    (lineup_after, {"lineup": WRONG, "calls": [0]}, InvalidLineupError),
    (lineup_after, {"lineup": L, "calls": [1, 0, 4]}, InvalidCallsError),
    (shorten_calls, {"calls": [0, 0, 1, -1]}, InvalidCallsError),
]


class Values(unittest.TestCase):
    def test_by_name_and_by_position(self):
        for function, named, result, _, _, _ in CASES:
            with self.subTest(function.__name__):
                self.assertEqual(function(**named), result)
                self.assertEqual(function(*named.values()), result)
                self.assertIs(type(function(**named)), type(result))

    def test_arguments_are_unchanged(self):
        for function, named, _, _, _, _ in CASES:
            given = copy.deepcopy(named)
            with self.subTest(function.__name__):
                function(**given)
                self.assertEqual(given, named)

    def test_arguments_are_unchanged_by_a_failure(self):
        for function, named, error in FAILURES:
            given = copy.deepcopy(named)
            with self.subTest(function.__name__):
                with self.assertRaises(error):
                    function(**given)
                self.assertEqual(given, named)

    def test_a_failure_changes_nothing_later(self):
        for function, named, error in FAILURES:
            with self.assertRaises(error):
                function(**copy.deepcopy(named))
        for function, named, result, _, _, _ in CASES:
            with self.subTest(function.__name__):
                self.assertEqual(function(**copy.deepcopy(named)), result)

    def test_is_lineup_leaves_other_values_as_they_are(self):
        for value in ([(0, "a"), (1, "B")], [[0, "a"]], {"a": [1]}, (1, 2), [(0, ["a"])]):
            given = copy.deepcopy(value)
            self.assertIs(is_lineup(given), False)
            self.assertEqual(given, value)

    def test_the_same_list_changed_in_place(self):
        for function, named, result, name, changed, then in CASES:
            given = copy.deepcopy(named)
            with self.subTest(function.__name__):
                first = function(**given)
                self.assertEqual(first, result)
                given[name][:] = changed
                self.assertEqual(first, result)
                self.assertEqual(function(**given), then)
                given[name][:] = named[name]
                self.assertEqual(function(**given), result)

    def test_a_returned_list_that_is_changed(self):
        for function, named, result, _, _, _ in CASES:
            if type(result) is not list:
                continue
            given = copy.deepcopy(named)
            with self.subTest(function.__name__):
                first, second = function(**given), function(**given)
                self.assertIsNot(first, second)
                for argument in given.values():
                    self.assertIsNot(first, argument)
                first.append("more")
                first[0] = "other"
                self.assertEqual(second, result)
                self.assertEqual(given, named)
                self.assertEqual(function(**given), result)

    def test_a_result_may_be_passed_back(self):
        once = lineup_after(L, [1, 0])
        self.assertTrue(is_lineup(once))
        self.assertEqual(lineup_after(once, [3]), lineup_after(L, [1, 0, 3]))
        self.assertEqual(shorten_calls(shorten_calls([0, 0, 0, 1, 1])), [0, 1, 1])


if __name__ == "__main__":
    unittest.main()

"""Promise 2: arguments stay as they are, results are new, arguments by position or by name."""

import copy
import unittest

from lastother.called import called_colors, called_sides, color_arrivals, single_color_moments
from lastother.calls import color_taken, colors_taken, colors_taken_by_each, lineup_after, shorten_calls
from lastother.certificates import bound_value, calls_for_chain, chain_cost, greatest_bound, is_bound, is_chain
from lastother.errors import (
    InvalidBoundError, InvalidCallsError, InvalidChainError, InvalidColorError, InvalidColorsError, InvalidLineupError,
    InvalidNumberError, InvalidOrderError, InvalidPersonError,
)
from lastother.fewest import best_chain, fewest_calls, fewest_calls_to_one_color, fewest_calls_to_take
from lastother.history import can_swap_calls, changed_without, color_history, redundant_calls
from lastother.lineups import (
    color_runs, colors_in_order, count_of, front_color, is_lineup, people_ahead_of, second_color,
)
from lastother.optimal import count_optimal, fewest_after_each, improving_people, is_optimal, nth_optimal
from lastother.rounds import colors_left_by, lineup_after_rounds, round_period, rounds_until_one_color
from tests.helpers import L, LETTERS, M, N

# The same people in another order and with other colors.
OTHER = [(2, "b"), (1, "b"), (0, "d"), (3, "a")]

BOUND = {"a": 0, "b": 0, "c": 1}
# The same colors as in L, in another order.
TURNED = [(3, "c"), (1, "b"), (2, "b"), (0, "a")]

# function, arguments by name, result, the name of a list or dict, what it is changed to, result then
CASES = [
    (is_lineup, {"value": L}, True, "value", [(0, "a"), (0, "a")], False),
    (front_color, {"lineup": L}, "a", "lineup", OTHER, "b"),
    (second_color, {"lineup": L}, "b", "lineup", OTHER, "d"),
    (color_runs, {"lineup": L}, [("a", 1), ("b", 1), ("c", 1), ("a", 1)],
     "lineup", OTHER, [("b", 2), ("d", 1), ("a", 1)]),
    (colors_in_order, {"lineup": L}, "abc", "lineup", OTHER, "bda"),
    (count_of, {"lineup": L, "color": "a"}, 2, "lineup", OTHER, 1),
    (people_ahead_of, {"lineup": L, "color": "a"}, 0, "lineup", OTHER, 3),
    (color_taken, {"lineup": L, "person": 0}, "b", "lineup", [(0, "a"), (1, "d")], "d"),
    (colors_taken_by_each, {"lineup": L}, ["b", "a", "a", "b"], "lineup", OTHER, ["b", "d", "d", "b"]),
    (colors_taken, {"lineup": L, "calls": [1, 0]}, ["a", "c"], "lineup", OTHER, ["d", "b"]),
    (colors_taken, {"lineup": L, "calls": [1, 0]}, ["a", "c"], "calls", [0, 2, 0], ["b", "b", "a"]),
    (lineup_after, {"lineup": L, "calls": [1, 0]}, [(0, "c"), (1, "a"), (2, "c"), (3, "a")],
     "lineup", OTHER, [(0, "b"), (1, "d"), (2, "b"), (3, "a")]),
    (lineup_after, {"lineup": L, "calls": [1, 0]}, [(0, "c"), (1, "a"), (2, "c"), (3, "a")],
     "calls", [0], [(0, "b"), (1, "b"), (2, "c"), (3, "a")]),
    (lineup_after, {"lineup": L, "calls": []}, L, "lineup", OTHER, OTHER),
    (shorten_calls, {"calls": [0, 0, 0, 1]}, [0, 1], "calls", [2, 2], [2, 2]),
    (shorten_calls, {"calls": [0, 1]}, [0, 1], "calls", [], []),
    (called_colors, {"lineup": L, "calls": [1, 0]}, ["", "a", "ac"], "lineup", OTHER, ["", "d", "bd"]),
    (called_colors, {"lineup": L, "calls": [1, 0]}, ["", "a", "ac"], "calls", [0], ["", "b"]),
    (called_colors, {"lineup": L, "calls": []}, [""], "calls", [2], ["", "a"]),
    (single_color_moments, {"lineup": L, "calls": [1, 0]}, [1], "lineup", M, [1]),
    (single_color_moments, {"lineup": L, "calls": [1, 0]}, [1], "calls", [0, 0], [1, 2]),
    (single_color_moments, {"lineup": L, "calls": []}, [], "calls", [3], [1]),
    (color_arrivals, {"lineup": L, "calls": [1, 0]}, [(1, "a"), (2, "c")], "lineup", OTHER, [(1, "d"), (2, "b")]),
    (color_arrivals, {"lineup": L, "calls": [1, 0]}, [(1, "a"), (2, "c")], "calls", [0], [(1, "b")]),
    (called_sides, {"lineup": L, "calls": [1, 0]}, ([0], [1]), "lineup", [(1, "a"), (0, "b")], ([0, 1], [])),
    (called_sides, {"lineup": L, "calls": [1, 0]}, ([0], [1]), "calls", [0, 3, 1], ([1], [0, 3])),
    (called_sides, {"lineup": L, "calls": []}, ([], []), "calls", [2], ([2], [])),
    (fewest_calls, {"lineup": L, "colors": "c"}, 4, "lineup", TURNED, 3),
    (fewest_calls_to_one_color, {"lineup": L}, 2, "lineup", OTHER, 2),
    (fewest_calls_to_one_color, {"lineup": L}, 2, "lineup", [(1, "z"), (0, "z")], 0),
    (fewest_calls_to_take, {"lineup": L, "color": "c"}, 2, "lineup", TURNED, 1),
    (best_chain, {"lineup": L, "colors": "c"}, ["a"], "lineup", TURNED, []),
    (best_chain, {"lineup": TURNED, "colors": "a"}, ["c", "b"], "lineup", L, []),
    (best_chain, {"lineup": L, "colors": "a"}, [], "lineup", TURNED, ["c", "b"]),
    (is_chain, {"lineup": L, "colors": "c", "value": ["a", "b"]}, True, "lineup", TURNED, False),
    (is_chain, {"lineup": L, "colors": "c", "value": ["a", "b"]}, True, "value", ["b", "a"], False),
    (chain_cost, {"lineup": TURNED, "colors": "a", "chain": ["c", "b"]}, 4, "chain", ["c"], 5),
    (chain_cost, {"lineup": L, "colors": "c", "chain": ["a"]}, 4, "lineup", [(0, "a"), (1, "c")], 1),
    (calls_for_chain, {"lineup": L, "colors": "c", "chain": ["a", "b"]}, [0, 0, 1, 3], "chain", ["a"], [1, 0, 1, 3]),
    (calls_for_chain, {"lineup": L, "colors": "c", "chain": ["a"]}, [1, 0, 1, 3], "lineup", [(1, "a"), (0, "c")], [1]),
    (calls_for_chain, {"lineup": L, "colors": "abc", "chain": []}, [], "lineup", [(1, "a"), (0, "d")], [0]),
    (is_bound, {"lineup": L, "value": BOUND}, True, "lineup", OTHER, False),
    (is_bound, {"lineup": L, "value": BOUND}, True, "value", {"a": 0, "b": 0, "c": 2}, False),
    (greatest_bound, {"lineup": L}, BOUND, "lineup", OTHER, {"b": 0, "d": 0, "a": 1}),
    (bound_value, {"lineup": L, "colors": "c", "bound": BOUND}, 4, "bound", {"c": 0, "a": 0, "b": 0}, 3),
    (bound_value, {"lineup": L, "colors": "c", "bound": BOUND}, 4, "lineup", [(0, "b"), (1, "a"), (2, "c")], 3),
    (count_optimal, {"lineup": L, "colors": "c"}, 10, "lineup", TURNED, 6),
    (nth_optimal, {"lineup": L, "colors": "c", "index": 4}, [1, 0, 1, 3], "lineup", TURNED, [2, 0, 1]),
    (nth_optimal, {"lineup": L, "colors": "abc", "index": 0}, [], "lineup", [(1, "a"), (0, "d")], [0]),
    (is_optimal, {"lineup": L, "colors": "c", "value": [1, 3, 0, 1]}, True, "value", [3, 1, 0, 1], False),
    (is_optimal, {"lineup": L, "colors": "c", "value": [1, 3, 0, 1]}, True, "lineup", TURNED, False),
    (improving_people, {"lineup": L, "colors": "c"}, [0, 1], "lineup", TURNED, [0, 1, 2]),
    (improving_people, {"lineup": L, "colors": "abc"}, [], "lineup", [(1, "a"), (0, "d")], [0]),
    (fewest_after_each, {"lineup": L, "colors": "c"}, [3, 3, None, 4], "lineup", TURNED, [2, 2, 2, None]),
    (color_history, {"lineup": L, "calls": [1, 0]},
     [[(0, "a"), (2, "c")], [(0, "b"), (1, "a")], [(0, "c")], [(0, "a")]],
     "calls", [2], [[(0, "a")], [(0, "b")], [(0, "c"), (1, "a")], [(0, "a")]]),
    (color_history, {"lineup": L, "calls": []}, [[(0, "a")], [(0, "b")], [(0, "c")], [(0, "a")]],
     "lineup", [(1, "x"), (0, "x")], [[(0, "x")], [(0, "x")]]),
    (changed_without, {"lineup": L, "calls": [1, 0], "number": 1}, [0, 1], "calls", [2, 0], [2]),
    (redundant_calls, {"lineup": N, "calls": [1, 0]}, [2], "calls", [0, 0], [1, 2]),
    (redundant_calls, {"lineup": N, "calls": []}, [], "calls", [0, 0], [1, 2]),
    (can_swap_calls, {"lineup": L, "calls": [1, 0], "number": 1}, False, "calls", [1, 2], True),
    (round_period, {"lineup": M, "calls": [0]}, (1, 2), "calls", [0, 1], (2, 1)),
    (lineup_after_rounds, {"lineup": M, "calls": [0], "rounds": 10 ** 30}, [(0, "c"), (1, "b"), (2, "c")],
     "calls", [0, 1], [(1, "c"), (0, "c"), (2, "c")]),
    (lineup_after_rounds, {"lineup": M, "calls": [0], "rounds": 0}, M, "lineup", OTHER, OTHER),
    (rounds_until_one_color, {"lineup": M, "calls": [0, 1]}, 2, "calls", [0], None),
    (colors_left_by, {"lineup": M, "order": [1, 0, 2]}, "ac", "order", [0, 1, 2], "bc"),
]

WRONG = [(0, "a"), (2, "b"), (1, "B")]

# function, arguments by name, the error
FAILURES = [
    (front_color, {"lineup": WRONG}, InvalidLineupError),
    (second_color, {"lineup": WRONG}, InvalidLineupError),
    (color_runs, {"lineup": WRONG}, InvalidLineupError),
    (colors_in_order, {"lineup": WRONG}, InvalidLineupError),
    (count_of, {"lineup": WRONG, "color": "a"}, InvalidLineupError),
    (count_of, {"lineup": L, "color": "A"}, InvalidColorError),
    (people_ahead_of, {"lineup": WRONG, "color": "a"}, InvalidLineupError),
    (people_ahead_of, {"lineup": L, "color": ["a"]}, InvalidColorError),
    (color_taken, {"lineup": WRONG, "person": 0}, InvalidLineupError),
    (color_taken, {"lineup": L, "person": [4]}, InvalidPersonError),
    (colors_taken_by_each, {"lineup": WRONG}, InvalidLineupError),
    (colors_taken, {"lineup": WRONG, "calls": [0]}, InvalidLineupError),
    (colors_taken, {"lineup": L, "calls": [1, 0, 4]}, InvalidCallsError),
    (lineup_after, {"lineup": WRONG, "calls": [0]}, InvalidLineupError),
    (lineup_after, {"lineup": L, "calls": [1, 0, 4]}, InvalidCallsError),
    (shorten_calls, {"calls": [0, 0, 1, -1]}, InvalidCallsError),
    (called_colors, {"lineup": WRONG, "calls": [0]}, InvalidLineupError),
    (called_colors, {"lineup": L, "calls": [1, 0, 4]}, InvalidCallsError),
    (single_color_moments, {"lineup": WRONG, "calls": [0]}, InvalidLineupError),
    (single_color_moments, {"lineup": L, "calls": [1, 0, 4]}, InvalidCallsError),
    (color_arrivals, {"lineup": WRONG, "calls": [0]}, InvalidLineupError),
    (color_arrivals, {"lineup": L, "calls": [1, 0, 4]}, InvalidCallsError),
    (called_sides, {"lineup": WRONG, "calls": [0]}, InvalidLineupError),
    (called_sides, {"lineup": L, "calls": [1, 0, 4]}, InvalidCallsError),
    (fewest_calls, {"lineup": WRONG, "colors": "a"}, InvalidLineupError),
    (fewest_calls, {"lineup": L, "colors": ["b", "a"]}, InvalidColorsError),
    (fewest_calls_to_one_color, {"lineup": WRONG}, InvalidLineupError),
    (fewest_calls_to_take, {"lineup": WRONG, "color": "a"}, InvalidLineupError),
    (fewest_calls_to_take, {"lineup": L, "color": ["a"]}, InvalidColorError),
    (best_chain, {"lineup": WRONG, "colors": "a"}, InvalidLineupError),
    (best_chain, {"lineup": L, "colors": ["b", "a"]}, InvalidColorsError),
    (is_chain, {"lineup": WRONG, "colors": "a", "value": []}, InvalidLineupError),
    (is_chain, {"lineup": L, "colors": ["b", "a"], "value": ["a"]}, InvalidColorsError),
    (chain_cost, {"lineup": WRONG, "colors": "a", "chain": []}, InvalidLineupError),
    (chain_cost, {"lineup": L, "colors": ["b", "a"], "chain": ["a"]}, InvalidColorsError),
    (chain_cost, {"lineup": L, "colors": "c", "chain": ["b", "a"]}, InvalidChainError),
    (calls_for_chain, {"lineup": WRONG, "colors": "a", "chain": []}, InvalidLineupError),
    (calls_for_chain, {"lineup": L, "colors": ["b", "a"], "chain": ["a"]}, InvalidColorsError),
    (calls_for_chain, {"lineup": L, "colors": "c", "chain": ["a", "b", "b"]}, InvalidChainError),
    (is_bound, {"lineup": WRONG, "value": {"a": 0}}, InvalidLineupError),
    (greatest_bound, {"lineup": WRONG}, InvalidLineupError),
    (bound_value, {"lineup": WRONG, "colors": "a", "bound": {"a": 0}}, InvalidLineupError),
    (bound_value, {"lineup": L, "colors": ["b", "a"], "bound": BOUND}, InvalidColorsError),
    (bound_value, {"lineup": L, "colors": "c", "bound": {"b": 0, "c": 2, "a": 0}}, InvalidBoundError),
    (count_optimal, {"lineup": WRONG, "colors": "a"}, InvalidLineupError),
    (count_optimal, {"lineup": L, "colors": ["b", "a"]}, InvalidColorsError),
    (nth_optimal, {"lineup": WRONG, "colors": "a", "index": 0}, InvalidLineupError),
    (nth_optimal, {"lineup": L, "colors": ["b", "a"], "index": 0}, InvalidColorsError),
    (nth_optimal, {"lineup": L, "colors": "c", "index": [4]}, InvalidNumberError),
    (is_optimal, {"lineup": WRONG, "colors": "a", "value": [0]}, InvalidLineupError),
    (is_optimal, {"lineup": L, "colors": ["b", "a"], "value": [0]}, InvalidColorsError),
    (improving_people, {"lineup": WRONG, "colors": "a"}, InvalidLineupError),
    (improving_people, {"lineup": L, "colors": ["b", "a"]}, InvalidColorsError),
    (fewest_after_each, {"lineup": WRONG, "colors": "a"}, InvalidLineupError),
    (fewest_after_each, {"lineup": L, "colors": ["b", "a"]}, InvalidColorsError),
    (color_history, {"lineup": WRONG, "calls": [0]}, InvalidLineupError),
    (color_history, {"lineup": L, "calls": [1, 0, 4]}, InvalidCallsError),
    (changed_without, {"lineup": WRONG, "calls": [0], "number": 1}, InvalidLineupError),
    (changed_without, {"lineup": L, "calls": [1, 0, 4], "number": 1}, InvalidCallsError),
    (changed_without, {"lineup": L, "calls": [1, 0], "number": [3]}, InvalidNumberError),
    (redundant_calls, {"lineup": WRONG, "calls": [0]}, InvalidLineupError),
    (redundant_calls, {"lineup": L, "calls": [1, 0, 4]}, InvalidCallsError),
    (can_swap_calls, {"lineup": WRONG, "calls": [0, 1], "number": 1}, InvalidLineupError),
    (can_swap_calls, {"lineup": L, "calls": [1, 0, 4], "number": 1}, InvalidCallsError),
    (can_swap_calls, {"lineup": L, "calls": [1, 0], "number": 2}, InvalidNumberError),
    (round_period, {"lineup": WRONG, "calls": [0]}, InvalidLineupError),
    (round_period, {"lineup": L, "calls": []}, InvalidCallsError),
    (lineup_after_rounds, {"lineup": WRONG, "calls": [0], "rounds": 1}, InvalidLineupError),
    (lineup_after_rounds, {"lineup": L, "calls": [1, 0, 4], "rounds": 1}, InvalidCallsError),
    (lineup_after_rounds, {"lineup": L, "calls": [1, 0], "rounds": [1]}, InvalidNumberError),
    (rounds_until_one_color, {"lineup": WRONG, "calls": [0]}, InvalidLineupError),
    (rounds_until_one_color, {"lineup": L, "calls": [1, 0, 4]}, InvalidCallsError),
    (colors_left_by, {"lineup": WRONG, "order": [2, 1, 0]}, InvalidLineupError),
    (colors_left_by, {"lineup": L, "order": [2, 1, 0, 0]}, InvalidOrderError),
]


def refill(value, content):
    """Give a list or a dict other content, in place."""
    value.clear()
    if type(value) is dict:
        value.update(content)
    else:
        value.extend(content)


def parts(result):
    """The lists and dicts of a result that can be changed, down to those within it."""
    found = [result] if type(result) in (list, dict) else []
    if type(result) in (list, tuple):
        for item in result:
            found.extend(parts(item))
    return found


def spoil(part):
    """Change a returned list or dict wherever it can be changed."""
    if type(part) is dict:
        for key in part:
            part[key] = "other"
        part["more"] = "more"
    else:
        part.append("more")
        part[0] = "other"


class Values(unittest.TestCase):
    def test_by_name_and_by_position(self):
        for function, named, result, _, _, _ in CASES:
            with self.subTest(function.__name__):
                self.assertEqual(function(**named), result)
                self.assertEqual(function(*named.values()), result)
                self.assertIs(type(function(**named)), type(result))

    def test_arguments_are_unchanged(self):
        for function, named, _, _, _, _ in CASES:
            given = copy.deepcopy(named)
            with self.subTest(function.__name__):
                function(**given)
                self.assertEqual(given, named)
                for name, value in named.items():
                    if type(value) is dict:
                        self.assertEqual(list(given[name]), list(value))

    def test_arguments_are_unchanged_by_a_failure(self):
        for function, named, error in FAILURES:
            given = copy.deepcopy(named)
            with self.subTest(function.__name__):
                with self.assertRaises(error):
                    function(**given)
                self.assertEqual(given, named)

    def test_a_failure_changes_nothing_later(self):
        for function, named, error in FAILURES:
            with self.assertRaises(error):
                function(**copy.deepcopy(named))
        for function, named, result, _, _, _ in CASES:
            with self.subTest(function.__name__):
                self.assertEqual(function(**copy.deepcopy(named)), result)

    def test_questions_leave_other_values_as_they_are(self):
        for value in ([(0, "a"), (1, "B")], [[0, "a"]], {"a": [1]}, (1, 2), [(0, ["a"])], ["b", "a"], {"c": 0, "a": 9}):
            given = copy.deepcopy(value)
            self.assertIs(is_lineup(given), False)
            self.assertIs(is_chain(L, "c", given), False)
            self.assertIs(is_bound(L, given), False)
            self.assertIs(is_optimal(L, "c", given), False)
            self.assertEqual(given, value)

    def test_the_same_argument_changed_in_place(self):
        for function, named, result, name, changed, then in CASES:
            given = copy.deepcopy(named)
            with self.subTest(function.__name__):
                first = function(**given)
                self.assertEqual(first, result)
                refill(given[name], changed)
                self.assertEqual(first, result)
                self.assertEqual(function(**given), then)
                refill(given[name], named[name])
                self.assertEqual(function(**given), result)

    def test_a_returned_list_or_dict_that_is_changed(self):
        for function, named, result, _, _, _ in CASES:
            given = copy.deepcopy(named)
            with self.subTest(function.__name__):
                first, second = parts(function(**given)), parts(function(**given))
                known = second + list(given.values())
                for at, part in enumerate(first):
                    for other in known + first[:at]:
                        self.assertIsNot(part, other)
                    spoil(part)
                self.assertEqual(second, parts(result))
                self.assertEqual(given, named)
                self.assertEqual(function(**given), result)

    def test_a_result_may_be_passed_back(self):
        once = lineup_after(L, [1, 0])
        self.assertTrue(is_lineup(once))
        self.assertEqual(lineup_after(once, [3]), lineup_after(L, [1, 0, 3]))
        self.assertEqual(shorten_calls(shorten_calls([0, 0, 0, 1, 1])), [0, 1, 1])
        chain = best_chain(once, "c")
        self.assertTrue(is_chain(once, "c", chain))
        self.assertEqual(len(calls_for_chain(once, "c", chain)), chain_cost(once, "c", chain))
        after = lineup_after(once, calls_for_chain(once, "c", chain))
        self.assertEqual(fewest_calls(after, "c"), 0)
        self.assertEqual(bound_value(once, "c", greatest_bound(once)), fewest_calls(once, "c"))
        calls = nth_optimal(once, "c", count_optimal(once, "c") - 1)
        self.assertTrue(is_optimal(once, "c", calls))
        self.assertEqual(changed_without(once, calls, len(calls)), [calls[-1]])
        self.assertTrue(is_lineup(lineup_after_rounds(once, calls, 10 ** 30)))

    def test_a_result_of_any_size_may_be_passed_back(self):
        lineup = [(59 - k, LETTERS[min(k, 25)]) for k in range(60)]
        calls = calls_for_chain(lineup, "z", list(LETTERS[:25]))
        self.assertGreater(len(calls), 200)
        self.assertEqual(fewest_calls(lineup_after(lineup, calls), "z"), 0)
        self.assertEqual(sum(len(entries) for entries in color_history(lineup, calls)), 60 + len(calls))
        self.assertIs(is_optimal(lineup, "z", calls), len(calls) == fewest_calls(lineup, "z"))
        self.assertEqual(changed_without(lineup, calls, len(calls)), [calls[-1]])
        self.assertEqual(redundant_calls(lineup, calls[:20]), [])
        self.assertEqual(rounds_until_one_color(lineup, calls), 1)


if __name__ == "__main__":
    unittest.main()

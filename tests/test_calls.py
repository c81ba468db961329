"""Promises 1, 7, 8 and 9: calls and call lists."""

import unittest
from itertools import product

from lastother.calls import color_taken, colors_taken, colors_taken_by_each, lineup_after, shorten_calls
from lastother.errors import InvalidLineupError, InvalidPersonError
from tests.errorcase import ErrorCase
from tests.helpers import (
    L, M, N, WRONG_INTEGERS, WRONG_LINEUPS, WRONG_LISTS, call_by_hand, long_calls, small_lineups,
)

ONE = [(0, "q")]
ALIKE = [(2, "e"), (0, "e"), (1, "e")]
SIXTY = [((k * 7) % 60, "abcde"[k % 5]) for k in range(60)]


class OneCall(unittest.TestCase):
    def test_examples(self):
        self.assertEqual(color_taken(L, 0), "b")
        self.assertEqual(colors_taken_by_each(L), ["b", "a", "a", "b"])

    def test_one_person_only(self):
        self.assertIsNone(color_taken(ONE, 0))
        self.assertEqual(colors_taken_by_each(ONE), [None])
        self.assertEqual(lineup_after(ONE, [0]), [(0, "q")])

    def test_a_person_with_the_front_color(self):
        self.assertEqual(color_taken(L, 3), "b")
        self.assertEqual(lineup_after(L, [3]), [(3, "b"), (0, "a"), (1, "b"), (2, "c")])

    def test_a_person_with_another_color(self):
        self.assertEqual(color_taken(L, 2), "a")
        self.assertEqual(lineup_after(L, [2]), [(2, "a"), (0, "a"), (1, "b"), (3, "a")])

    def test_the_front_person(self):
        self.assertEqual(color_taken(M, 0), "b")
        self.assertEqual(lineup_after(M, [0]), [(0, "b"), (1, "b"), (2, "c")])

    def test_all_of_one_color_still_move(self):
        self.assertEqual([color_taken(ALIKE, person) for person in range(3)], [None] * 3)
        self.assertEqual(colors_taken_by_each(ALIKE), [None] * 3)
        self.assertEqual(lineup_after(ALIKE, [1]), [(1, "e"), (2, "e"), (0, "e")])
        self.assertEqual(lineup_after(ALIKE, [0, 1]), [(1, "e"), (0, "e"), (2, "e")])
        self.assertEqual(colors_taken(ALIKE, [0, 1]), [None, None])

    def test_the_list_is_indexed_by_person_not_by_position(self):
        lineup = [(2, "c"), (0, "a"), (1, "b")]
        self.assertEqual(colors_taken_by_each(lineup), ["c", "c", "a"])
        self.assertEqual([color_taken(lineup, person) for person in range(3)], ["c", "c", "a"])

    def test_sixty_people(self):
        expected = [call_by_hand(SIXTY, person)[1] for person in range(60)]
        self.assertEqual(colors_taken_by_each(SIXTY), expected)
        self.assertEqual([color_taken(SIXTY, person) for person in range(60)], expected)

    def test_small_lineups_against_section_3(self):
        for lineup in small_lineups(4, "abc"):
            expected = [call_by_hand(lineup, person) for person in range(len(lineup))]
            self.assertEqual(colors_taken_by_each(lineup), [taken for _, taken in expected])
            for person, (after, taken) in enumerate(expected):
                self.assertEqual(color_taken(lineup, person), taken)
                self.assertEqual(lineup_after(lineup, [person]), after)

    def test_nobody_else_changes(self):
        for lineup in small_lineups(4, "abc"):
            for person in range(len(lineup)):
                after = lineup_after(lineup, [person])
                self.assertEqual(after[0][0], person)
                self.assertEqual(after[1:], [pair for pair in lineup if pair[0] != person])


class CallLists(unittest.TestCase):
    def test_examples(self):
        self.assertEqual(colors_taken(L, [1, 0]), ["a", "c"])
        self.assertEqual(lineup_after(L, [1, 0]), [(0, "c"), (1, "a"), (2, "c"), (3, "a")])

    def test_the_empty_call_list(self):
        for lineup in (ONE, ALIKE, L, SIXTY):
            self.assertEqual(colors_taken(lineup, []), [])
            self.assertEqual(lineup_after(lineup, []), lineup)

    def test_one_person_many_times(self):
        self.assertEqual(colors_taken(M, [0] * 5), ["b", "c", "b", "c", "b"])
        self.assertEqual(lineup_after(M, [0] * 5), [(0, "b"), (1, "b"), (2, "c")])
        self.assertEqual(lineup_after(M, [0] * 6), [(0, "c"), (1, "b"), (2, "c")])
        self.assertEqual(colors_taken(N, [1] * 4), ["a", None, None, None])

    def test_two_hundred_calls(self):
        calls = long_calls(60, 200)
        current, colors = SIXTY, []
        for person in calls:
            current, taken = call_by_hand(current, person)
            colors.append(taken)
        self.assertEqual(len(calls), 200)
        self.assertEqual(colors_taken(SIXTY, calls), colors)
        self.assertEqual(lineup_after(SIXTY, calls), current)

    def test_small_lineups_against_section_3(self):
        for lineup in small_lineups(3, "abc"):
            for calls in product(range(len(lineup)), repeat=3):
                current, colors = lineup, []
                for person in calls:
                    current, taken = call_by_hand(current, person)
                    colors.append(taken)
                self.assertEqual(colors_taken(lineup, list(calls)), colors)
                self.assertEqual(lineup_after(lineup, list(calls)), current)

    def test_kinds_of_the_results(self):
        self.assertIs(type(colors_taken(L, [1, 0])), list)
        after = lineup_after(L, [1, 0])
        self.assertIs(type(after), list)
        for pair in after:
            self.assertIs(type(pair), tuple)
        self.assertIs(type(colors_taken_by_each(L)), list)


class Shortened(unittest.TestCase):
    def test_example(self):
        self.assertEqual(shorten_calls([0, 0, 0, 1, 1, 2]), [0, 1, 1, 2])

    def test_the_empty_list(self):
        self.assertEqual(shorten_calls([]), [])

    def test_runs_of_each_length(self):
        expected = {1: [7], 2: [7, 7], 3: [7], 4: [7, 7], 5: [7], 6: [7, 7], 199: [7], 200: [7, 7]}
        for length, shorter in expected.items():
            with self.subTest(length):
                self.assertEqual(shorten_calls([7] * length), shorter)
                self.assertEqual(shorten_calls([3] + [7] * length + [3]), [3] + shorter + [3])

    def test_runs_beside_each_other_stay_apart(self):
        self.assertEqual(shorten_calls([1, 1, 1, 1, 0, 0, 0, 1, 1]), [1, 1, 0, 1, 1])
        self.assertEqual(shorten_calls([0, 1, 0, 1]), [0, 1, 0, 1])

    def test_large_numbers(self):
        large = 10 ** 31 - 1
        self.assertEqual(shorten_calls([large] * 3 + [large - 1] * 2), [large, large - 1, large - 1])
        self.assertEqual(shorten_calls([0, large, 10 ** 30, 10 ** 30]), [0, large, 10 ** 30, 10 ** 30])

    def test_the_lineup_after_it_is_the_one_before(self):
        for lineup in small_lineups(3, "abc"):
            for calls in product(range(len(lineup)), repeat=4):
                shorter = shorten_calls(list(calls))
                self.assertEqual(lineup_after(lineup, shorter), lineup_after(lineup, list(calls)))
        calls = [person for person in long_calls(60, 50) for _ in range(1 + person % 4)]
        self.assertEqual(lineup_after(SIXTY, shorten_calls(calls)), lineup_after(SIXTY, calls))


class Errors(ErrorCase):
    def test_no_lineup(self):
        for at, value in enumerate(WRONG_LINEUPS):
            with self.subTest(at):
                with self.assertRaises(InvalidLineupError):
                    color_taken(value, 0)
                with self.assertRaises(InvalidLineupError):
                    colors_taken_by_each(value)
                for function in (colors_taken, lineup_after):
                    with self.assertRaises(InvalidLineupError):
                        function(value, [])

    def test_no_person(self):
        for at, person in enumerate(WRONG_INTEGERS + [4, 5, 10 ** 30]):
            with self.subTest(at):
                with self.assertRaises(InvalidPersonError):
                    color_taken(L, person)
        with self.assertRaises(InvalidPersonError):
            color_taken(ONE, 1)

    def test_a_wrong_item_at_each_position(self):
        for function in (colors_taken, lineup_after):
            for at, wrong in enumerate(WRONG_INTEGERS + [4, 10 ** 30]):
                with self.subTest(function=function.__name__, at=at):
                    self.assert_index(0, function, L, [wrong])
                    self.assert_index(0, function, L, [wrong, 0, 1, 2])
                    self.assert_index(2, function, L, [0, 3, wrong, 2])
                    self.assert_index(3, function, L, [0, 3, 2, wrong])

    def test_the_first_wrong_item_counts(self):
        for function in (colors_taken, lineup_after):
            self.assert_index(1, function, L, [0, -1, 2, 9])
            self.assert_index(1, function, L, [0, 4, True, 1])
            self.assert_index(199, function, L, [0] * 199 + ["0"])

    def test_no_list_of_calls(self):
        for function in (colors_taken, lineup_after):
            for at, wrong in enumerate(WRONG_LISTS):
                with self.subTest(function=function.__name__, at=at):
                    self.assert_index(None, function, L, wrong)

    def test_the_lineup_is_looked_at_first(self):
        for lineup in ([], None, [(1, "a")], ((0, "a"),)):
            for wrong in WRONG_INTEGERS:
                with self.assertRaises(InvalidLineupError):
                    color_taken(lineup, wrong)
            for function in (colors_taken, lineup_after):
                for wrong in WRONG_LISTS + [[True], [-1], [99]]:
                    with self.assertRaises(InvalidLineupError):
                        function(lineup, wrong)

    def test_no_list_to_shorten(self):
        for at, wrong in enumerate(WRONG_LISTS):
            with self.subTest(at):
                self.assert_index(None, shorten_calls, wrong)

    def test_a_wrong_number_to_shorten(self):
        for at, wrong in enumerate(WRONG_INTEGERS):
            with self.subTest(at):
                self.assert_index(0, shorten_calls, [wrong])
                self.assert_index(0, shorten_calls, [wrong, 0])
                self.assert_index(2, shorten_calls, [0, 0, wrong, 0])
                self.assert_index(3, shorten_calls, [1, 1, 1, wrong])
                self.assert_index(1, shorten_calls, [10 ** 30, wrong, wrong])

    def test_true_in_a_run_of_ones(self):
        self.assert_index(1, shorten_calls, [1, True, 1])
        self.assert_index(2, shorten_calls, [0, 0, False])


if __name__ == "__main__":
    unittest.main()

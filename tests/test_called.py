"""Promises 10 and 11: the colors of the called people."""

import unittest
from itertools import product

from lastother.called import called_colors, called_sides, color_arrivals, single_color_moments
from lastother.errors import InvalidLineupError
from tests.errorcase import ErrorCase
from tests.helpers import (
    L, LETTERS, M, N, WRONG_INTEGERS, WRONG_LINEUPS, WRONG_LISTS, call_by_hand, long_calls, mixed_lineup,
    small_lineups,
)

FUNCTIONS = (called_colors, single_color_moments, color_arrivals, called_sides)
ONE = [(0, "q")]
ALIKE = [(2, "e"), (0, "e"), (1, "e")]
MANY = [(25 - k, LETTERS[k]) for k in range(26)]
SIXTY = [((k * 7) % 60, "abcde"[k % 5]) for k in range(60)]


def moments_by_hand(lineup, calls):
    """For each moment the lineup, and a dict from each called person to its color."""
    current, called = lineup, []
    moments = [(current, {})]
    for person in calls:
        current, _ = call_by_hand(current, person)
        called.append(person)
        moments.append((current, {someone: color for someone, color in current if someone in called}))
    return moments


def arrivals_by_hand(moments, calls):
    arrivals = []
    for k, person in enumerate(calls, start=1):
        color = dict(moments[k][0])[person]
        if color not in moments[k - 1][1].values():
            arrivals.append((k, color))
    return arrivals


class Called(unittest.TestCase):
    def check(self, lineup, calls):
        moments = moments_by_hand(lineup, calls)
        texts = ["".join(sorted(set(called.values()))) for _, called in moments]
        self.assertEqual(called_colors(lineup, calls), texts)
        alone = [k for k, text in enumerate(texts) if len(text) == 1]
        self.assertEqual(single_color_moments(lineup, calls), alone)
        self.assertEqual(color_arrivals(lineup, calls), arrivals_by_hand(moments, calls))
        last, called = moments[-1]
        front = last[0][1]
        alike = sorted(person for person, color in called.items() if color == front)
        different = sorted(person for person, color in called.items() if color != front)
        self.assertEqual(called_sides(lineup, calls), (alike, different))
        self.assertEqual(texts[0], "")
        self.assertTrue(all(1 <= len(text) <= 2 for text in texts[1:]))
        return texts

    def test_examples(self):
        self.assertEqual(called_colors(M, [0, 0, 1]), ["", "b", "c", "c"])
        self.assertEqual(single_color_moments(M, [0, 0, 1]), [1, 2, 3])
        self.assertEqual(color_arrivals(M, [0, 0, 1]), [(1, "b"), (2, "c")])
        self.assertEqual(called_sides(L, [1, 0]), ([0], [1]))

    def test_no_calls(self):
        for lineup in (ONE, ALIKE, L, M, N, MANY, SIXTY):
            self.assertEqual(called_colors(lineup, []), [""])
            self.assertEqual(single_color_moments(lineup, []), [])
            self.assertEqual(color_arrivals(lineup, []), [])
            self.assertEqual(called_sides(lineup, []), ([], []))

    def test_one_person_called_many_times(self):
        self.assertEqual(called_colors(M, [0] * 5), ["", "b", "c", "b", "c", "b"])
        self.assertEqual(single_color_moments(M, [0] * 5), [1, 2, 3, 4, 5])
        self.assertEqual(color_arrivals(M, [0] * 3), [(1, "b"), (2, "c"), (3, "b")])
        self.assertEqual(called_sides(M, [0] * 5), ([0], []))
        self.assertEqual(called_colors(N, [1] * 3), ["", "a", "a", "a"])
        self.assertEqual(color_arrivals(N, [1] * 3), [(1, "a")])
        self.check(SIXTY, [17] * 200)

    def test_a_lineup_of_one_person(self):
        self.assertEqual(called_colors(ONE, [0, 0]), ["", "q", "q"])
        self.assertEqual(single_color_moments(ONE, [0, 0]), [1, 2])
        self.assertEqual(color_arrivals(ONE, [0, 0]), [(1, "q")])
        self.assertEqual(called_sides(ONE, [0, 0]), ([0], []))

    def test_a_lineup_of_one_color(self):
        self.assertEqual(called_colors(ALIKE, [1, 2, 1]), ["", "e", "e", "e"])
        self.assertEqual(single_color_moments(ALIKE, [1, 2, 1]), [1, 2, 3])
        self.assertEqual(color_arrivals(ALIKE, [1, 2, 1]), [(1, "e")])
        self.assertEqual(called_sides(ALIKE, [1, 2, 1]), ([1, 2], []))

    def test_two_colors_among_the_called_people(self):
        self.assertEqual(called_colors(L, [1, 0]), ["", "a", "ac"])
        self.assertEqual(single_color_moments(L, [1, 0]), [1])
        self.assertEqual(color_arrivals(L, [1, 0]), [(1, "a"), (2, "c")])
        self.assertEqual(called_sides(L, [0, 3, 1]), ([1], [0, 3]))

    def test_the_letters_are_in_ascending_order(self):
        lineup = [(0, "c"), (1, "b"), (2, "a"), (3, "c")]
        self.assertEqual(called_colors(lineup, [1, 0]), ["", "c", "ac"])
        self.assertEqual(called_colors([(0, "a"), (1, "z"), (2, "c")], [1, 0]), ["", "a", "ac"])

    def test_a_color_that_comes_back_arrives_again(self):
        self.assertEqual(color_arrivals(M, [0, 0, 0, 2]), [(1, "b"), (2, "c"), (3, "b")])

    def test_the_color_of_the_called_person_itself_counts_at_the_moment_before(self):
        # Person 0 has b at moment 1 and takes c, a new color, at moment 2.
        self.assertEqual(color_arrivals(M, [0, 0])[-1], (2, "c"))
        # In N the second call takes no color: its color was there before.
        self.assertEqual(color_arrivals(N, [0, 0]), [(1, "b")])

    def test_called_people_behind_others_are_counted(self):
        self.assertEqual(called_sides(L, [3, 2, 1, 0])[0][:1], [0])
        self.check(L, [3, 2, 1, 0])

    def test_all_people_called(self):
        for lineup in (L, M, N, MANY, SIXTY):
            size = len(lineup)
            for calls in (list(range(size)), list(range(size))[::-1], [k * 7 % size for k in range(size)]):
                texts = self.check(lineup, calls)
                everybody = moments_by_hand(lineup, calls)[-1][0]
                self.assertEqual(texts[-1], "".join(sorted({color for _, color in everybody})))
                self.assertEqual(sorted(sum(called_sides(lineup, calls), [])), list(range(size)))

    def test_many_colors_one_after_another(self):
        # The people in front of the next color all take it, again and again.
        calls = [person for size in range(1, 20) for person in range(25, 25 - size, -1)]
        texts = self.check(MANY, calls)
        self.assertEqual("".join(text for text in dict.fromkeys(texts) if len(text) == 1), LETTERS[1:20])

    def test_two_hundred_calls(self):
        for lineup in (L, M, N, ONE, ALIKE, MANY, SIXTY):
            self.check(lineup, long_calls(len(lineup), 200))
        for number in range(6):
            self.check(mixed_lineup(60, LETTERS, number), long_calls(60, 200, number))
            self.check(mixed_lineup(12, "abcdef", number), long_calls(12, 200, number))

    def test_small_lineups_call_by_call(self):
        for lineup in small_lineups(3, "abc"):
            for calls in product(range(len(lineup)), repeat=4):
                self.check(lineup, list(calls))
        for lineup in [[(2, "b"), (0, "a"), (3, "c"), (1, "d")], [(3, "d"), (2, "d"), (1, "a"), (0, "b")]]:
            for calls in product(range(4), repeat=5):
                self.check(lineup, list(calls))

    def test_kinds_of_the_results(self):
        for calls in ([], [1, 0], [0, 3, 1, 1]):
            for function in (called_colors, single_color_moments, color_arrivals):
                self.assertIs(type(function(L, calls)), list)
            self.assertTrue(all(type(text) is str for text in called_colors(L, calls)))
            self.assertTrue(all(type(k) is int for k in single_color_moments(L, calls)))
            for arrival in color_arrivals(L, calls):
                self.assertIs(type(arrival), tuple)
                self.assertEqual([type(part) for part in arrival], [int, str])
            sides = called_sides(L, calls)
            self.assertIs(type(sides), tuple)
            self.assertEqual([type(side) for side in sides], [list, list])
            self.assertIsNot(sides[0], sides[1])


class Errors(ErrorCase):
    def test_no_lineup(self):
        for function in FUNCTIONS:
            for at, value in enumerate(WRONG_LINEUPS):
                with self.subTest(function=function.__name__, at=at):
                    with self.assertRaises(InvalidLineupError) as caught:
                        function(value, [])
                    self.assertIs(type(caught.exception), InvalidLineupError)

    def test_a_wrong_item_at_each_position(self):
        for function in FUNCTIONS:
            for at, wrong in enumerate(WRONG_INTEGERS + ["1", 4, 60, 10 ** 30]):
                with self.subTest(function=function.__name__, at=at):
                    self.assert_index(0, function, L, [wrong])
                    self.assert_index(0, function, L, [wrong, 0, 1, 2])
                    self.assert_index(2, function, L, [0, 3, wrong, 2])
                    self.assert_index(3, function, L, [0, 3, 2, wrong])

    def test_the_first_wrong_item_counts(self):
        for function in FUNCTIONS:
            self.assert_index(1, function, L, [0, -1, 2, 9])
            self.assert_index(1, function, L, [0, 4, True, 1])
            self.assert_index(0, function, L, ["0", 1, -1])
            self.assert_index(199, function, L, [0] * 199 + ["0"])

    def test_no_list_of_calls(self):
        for function in FUNCTIONS:
            for at, wrong in enumerate(WRONG_LISTS):
                with self.subTest(function=function.__name__, at=at):
                    self.assert_index(None, function, L, wrong)

    def test_the_lineup_is_looked_at_first(self):
        for function in FUNCTIONS:
            for lineup in ([], None, [(1, "a")], ((0, "a"),), [(0, "a"), (1, "B")]):
                for wrong in WRONG_LISTS + [[True], [-1], [99], ["0"]]:
                    with self.assertRaises(InvalidLineupError):
                        function(lineup, wrong)


if __name__ == "__main__":
    unittest.main()

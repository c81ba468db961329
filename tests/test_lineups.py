"""Promises 5 and 6: lineups and questions about their colors."""

import unittest

from lastother.errors import InvalidColorError, InvalidLineupError
from lastother.lineups import (
    color_runs, colors_in_order, count_of, front_color, is_lineup, people_ahead_of, second_color,
)
from tests.helpers import L, LETTERS, M, N, WRONG_COLORS, WRONG_LINEUPS, small_lineups

ONE = [(0, "q")]
ALIKE = [(2, "e"), (0, "e"), (1, "e")]
MIXED = [(3, "b"), (0, "b"), (5, "a"), (1, "b"), (2, "c"), (4, "c"), (6, "c"), (7, "a")]
MANY = [(k, LETTERS[25 - k]) for k in range(26)]
SIXTY = [(59 - k, "ab"[k // 30]) for k in range(60)]


class Lineups(unittest.TestCase):
    def test_example(self):
        self.assertIs(is_lineup([(1, "b"), (0, "a")]), True)

    def test_lineups_of_the_document(self):
        for lineup in (L, M, N):
            self.assertIs(is_lineup(lineup), True)

    def test_from_one_to_sixty_people(self):
        for size in (1, 2, 3, 59, 60):
            with self.subTest(size):
                self.assertIs(is_lineup([(k, "a") for k in range(size)]), True)
                self.assertIs(is_lineup([(size - 1 - k, "z") for k in range(size)]), True)

    def test_sixty_one_people_are_too_many(self):
        self.assertIs(is_lineup([(k, "a") for k in range(61)]), False)

    def test_nobody_is_no_lineup(self):
        self.assertIs(is_lineup([]), False)

    def test_every_letter_is_a_color(self):
        for letter in LETTERS:
            self.assertIs(is_lineup([(0, letter)]), True)
        self.assertIs(is_lineup(MANY), True)

    def test_no_other_character_is_a_color(self):
        for code in list(range(256)) + [0x131, 0x3B1, 0x430, 0xFF41, 0x1F600]:
            if chr(code) not in LETTERS:
                with self.subTest(code):
                    self.assertIs(is_lineup([(0, chr(code))]), False)

    def test_a_wrong_person_at_every_place(self):
        for place in range(4):
            for wrong in (-1, 4, L[place - 1][0], True, False, "0", None):
                lineup = list(L)
                lineup[place] = (wrong, lineup[place][1])
                with self.subTest(place=place, wrong=wrong):
                    self.assertIs(is_lineup(lineup), False)

    def test_true_and_false_beside_the_missing_numbers(self):
        self.assertIs(is_lineup([(False, "a"), (True, "b")]), False)
        self.assertIs(is_lineup([(0, "a"), (True, "b"), (2, "c")]), False)

    def test_a_wrong_color_at_every_place(self):
        for place in range(4):
            for wrong in WRONG_COLORS:
                lineup = list(L)
                lineup[place] = (lineup[place][0], wrong)
                with self.subTest(place=place):
                    self.assertIs(is_lineup(lineup), False)

    def test_other_values(self):
        for at, value in enumerate(WRONG_LINEUPS):
            with self.subTest(at):
                self.assertIs(is_lineup(value), False)

    def test_every_small_lineup(self):
        for lineup in small_lineups(3, "ab"):
            self.assertIs(is_lineup(lineup), True)


class Colors(unittest.TestCase):
    def test_examples(self):
        self.assertEqual(front_color(L), "a")
        self.assertEqual(second_color(L), "b")
        self.assertEqual(color_runs([(0, "a"), (1, "a"), (2, "b"), (3, "a")]), [("a", 2), ("b", 1), ("a", 1)])
        self.assertEqual(colors_in_order(L), "abc")
        self.assertEqual(count_of(L, "a"), 2)
        self.assertEqual(people_ahead_of(L, "c"), 2)

    def test_front_color(self):
        self.assertEqual(front_color(ONE), "q")
        self.assertEqual(front_color(ALIKE), "e")
        self.assertEqual(front_color(MIXED), "b")
        self.assertEqual(front_color(MANY), "z")
        self.assertEqual(front_color([(1, "b"), (0, "a")]), "b")

    def test_second_color(self):
        self.assertEqual(second_color(MIXED), "a")
        self.assertEqual(second_color(MANY), "y")
        self.assertEqual(second_color(SIXTY), "b")
        self.assertEqual(second_color([(1, "b"), (0, "a")]), "a")
        self.assertIsNone(second_color(ONE))
        self.assertIsNone(second_color(ALIKE))

    def test_color_runs(self):
        self.assertEqual(color_runs(ONE), [("q", 1)])
        self.assertEqual(color_runs(ALIKE), [("e", 3)])
        self.assertEqual(color_runs(MIXED), [("b", 2), ("a", 1), ("b", 1), ("c", 3), ("a", 1)])
        self.assertEqual(color_runs(MANY), [(color, 1) for _, color in MANY])
        self.assertEqual(color_runs(SIXTY), [("a", 30), ("b", 30)])

    def test_colors_in_order(self):
        self.assertEqual(colors_in_order(ONE), "q")
        self.assertEqual(colors_in_order(ALIKE), "e")
        self.assertEqual(colors_in_order(MIXED), "bac")
        self.assertEqual(colors_in_order(MANY), LETTERS[::-1])
        self.assertEqual(colors_in_order(SIXTY), "ab")

    def test_count_of(self):
        self.assertEqual([count_of(MIXED, color) for color in "abcd"], [2, 3, 3, 0])
        self.assertEqual(count_of(ALIKE, "e"), 3)
        self.assertEqual(count_of(ALIKE, "a"), 0)
        self.assertEqual(count_of(ONE, "z"), 0)
        self.assertEqual(count_of(SIXTY, "b"), 30)
        self.assertEqual([count_of(MANY, color) for color in LETTERS], [1] * 26)

    def test_people_ahead_of(self):
        self.assertEqual([people_ahead_of(MIXED, color) for color in "abc"], [2, 0, 4])
        self.assertEqual(people_ahead_of(SIXTY, "b"), 30)
        self.assertEqual(people_ahead_of(MANY, "a"), 25)
        self.assertEqual(people_ahead_of(ALIKE, "e"), 0)
        self.assertIsNone(people_ahead_of(MIXED, "d"))
        self.assertIsNone(people_ahead_of(ALIKE, "a"))

    def test_small_lineups_against_their_colors(self):
        for lineup in small_lineups(4, "abc"):
            text = "".join(color for _, color in lineup)
            others = text.replace(text[0], "")
            self.assertEqual(front_color(lineup), text[0])
            self.assertEqual(second_color(lineup), others[0] if others else None)
            self.assertEqual("".join(color * length for color, length in color_runs(lineup)), text)
            self.assertEqual(colors_in_order(lineup), "".join(dict.fromkeys(text)))
            for color in "abcz":
                self.assertEqual(count_of(lineup, color), text.count(color))
                ahead = people_ahead_of(lineup, color)
                self.assertEqual(ahead, text.find(color) if color in text else None)

    def test_kinds_of_the_results(self):
        self.assertIs(type(front_color(L)), str)
        self.assertIs(type(second_color(L)), str)
        self.assertIs(type(colors_in_order(L)), str)
        self.assertIs(type(color_runs(L)), list)
        for run in color_runs(L):
            self.assertIs(type(run), tuple)
        for color in "ad":
            self.assertIs(type(count_of(L, color)), int)
        self.assertIs(type(people_ahead_of(L, "a")), int)


class Errors(unittest.TestCase):
    def test_a_value_that_is_no_lineup(self):
        for function in (front_color, second_color, color_runs, colors_in_order):
            for at, value in enumerate(WRONG_LINEUPS):
                with self.subTest(function=function.__name__, at=at):
                    with self.assertRaises(InvalidLineupError):
                        function(value)

    def test_no_lineup_beside_a_color(self):
        for function in (count_of, people_ahead_of):
            for at, value in enumerate(WRONG_LINEUPS):
                with self.subTest(function=function.__name__, at=at):
                    with self.assertRaises(InvalidLineupError):
                        function(value, "a")

    def test_a_value_that_is_no_color(self):
        for function in (count_of, people_ahead_of):
            for at, value in enumerate(WRONG_COLORS):
                with self.subTest(function=function.__name__, at=at):
                    with self.assertRaises(InvalidColorError):
                        function(L, value)

    def test_the_lineup_is_looked_at_first(self):
        for function in (count_of, people_ahead_of):
            for lineup in ([], None, [(1, "a")], ((0, "a"),)):
                for color in WRONG_COLORS:
                    with self.assertRaises(InvalidLineupError):
                        function(lineup, color)


if __name__ == "__main__":
    unittest.main()

"""Promise 15: bounds, the greatest bound, and the value of a bound for a color set."""

import unittest
from itertools import product

from lastother.certificates import bound_value, greatest_bound, is_bound
from lastother.errors import InvalidBoundError, InvalidColorsError, InvalidLineupError
from lastother.fewest import fewest_calls
from lastother.lineups import colors_in_order
from tests.errorcase import ErrorCase
from tests.helpers import (
    L, LETTERS, M, N, WRONG_COLOR_SETS, WRONG_LINEUPS, TextKind, Touchy, circle, color_sets, colors_of, goal_place,
    mixed_lineup, outside_by_hand, small_lineups,
)

ONE = [(0, "q")]
ALIKE = [(2, "e"), (0, "e"), (1, "e")]
MANY = [(k, LETTERS[25 - k]) for k in range(26)]
GREATEST = {"a": 0, "b": 0, "c": 1}


class DictKind(dict):
    """A dict of another kind."""


NO_BOUNDS = [
    [("a", 0), ("b", 0), ("c", 1)], ["a", "b", "c"], [0, 0, 1], [], (), "abc", "", None, True, 0, 1, {"a", "b", "c"},
    (("a", 0), ("b", 0), ("c", 1)), DictKind(GREATEST), object(), Touchy(), circle(),
]


def is_bound_by_hand(lineup, values):
    """Whether a dict from colors to integers is a bound, sentence by sentence as section 3 says."""
    text = colors_of(lineup)
    if set(values) != set(text) or any(value < 0 for value in values.values()):
        return False
    if values[text[0]] != 0:
        return False
    for color in set(text) - {text[0]}:
        ahead = text[:text.find(color)]
        for other in set(ahead):
            if values[color] > values[other] + len(ahead) - ahead.count(other):
                return False
    return True


class IsBound(unittest.TestCase):
    def test_example(self):
        self.assertIs(is_bound(L, {"a": 0, "b": 0, "c": 2}), False)

    def test_bounds(self):
        for values in ({"a": 0, "b": 0, "c": 1}, {"a": 0, "b": 0, "c": 0}):
            self.assertIs(is_bound(L, values), True)
        self.assertIs(is_bound(ONE, {"q": 0}), True)
        self.assertIs(is_bound(ALIKE, {"e": 0}), True)
        self.assertIs(is_bound(MANY, {letter: 0 for letter in LETTERS}), True)

    def test_another_order_of_the_keys(self):
        for values in ({"c": 1, "a": 0, "b": 0}, {"c": 1, "b": 0, "a": 0}, {"b": 0, "c": 0, "a": 0}):
            self.assertIs(is_bound(L, values), True)
        greatest = greatest_bound(MANY)
        self.assertIs(is_bound(MANY, {letter: greatest[letter] for letter in LETTERS}), True)

    def test_a_color_is_missing(self):
        for values in ({}, {"a": 0}, {"a": 0, "b": 0}, {"b": 0, "c": 1}, {"a": 0, "c": 1}):
            self.assertIs(is_bound(L, values), False)
        self.assertIs(is_bound(ONE, {}), False)

    def test_a_color_too_many(self):
        for more in ("d", "z", "A", "", "ab", 0, None, True, ("a",)):
            self.assertIs(is_bound(L, {**GREATEST, more: 0}), False)
            self.assertIs(is_bound(L, {more: 0, **GREATEST}), False)

    def test_another_color_in_its_place(self):
        self.assertIs(is_bound(L, {"a": 0, "b": 0, "d": 0}), False)
        self.assertIs(is_bound(ONE, {"a": 0}), False)

    def test_a_value_too_great_by_one(self):
        lineups = [L, M, N, ONE, ALIKE, MANY] + [mixed_lineup(30, LETTERS[:k + 2], k) for k in range(8)]
        for lineup in lineups:
            greatest = greatest_bound(lineup)
            for color in greatest:
                self.assertIs(is_bound(lineup, {**greatest, color: greatest[color] + 1}), False)
        self.assertIs(is_bound(L, {"a": 0, "b": 0, "c": 10 ** 30}), False)

    def test_a_value_too_great_beside_smaller_ones(self):
        # The value of d is at most that of c plus 2.
        lineup = list(enumerate("abcccd"))
        self.assertIs(is_bound(lineup, {"a": 0, "b": 0, "c": 1, "d": 3}), True)
        self.assertIs(is_bound(lineup, {"a": 0, "b": 0, "c": 0, "d": 3}), False)
        self.assertIs(is_bound(lineup, {"a": 0, "b": 0, "c": 0, "d": 2}), True)

    def test_the_value_of_the_front_color_is_zero(self):
        for value in (1, -1, 2):
            self.assertIs(is_bound(L, {"a": value, "b": 0, "c": 0}), False)
            self.assertIs(is_bound(ONE, {"q": value}), False)

    def test_a_negative_value(self):
        for color in "abc":
            for value in (-1, -2, -(10 ** 30)):
                self.assertIs(is_bound(L, {**GREATEST, color: value}), False)

    def test_values_of_other_kinds(self):
        for color in "abc":
            for value in (True, False, "0", "", None, 0.0, 1.0, [0], (0,), b"0", {}, object(), Touchy(), circle()):
                values = dict(GREATEST)
                values[color] = value
                self.assertIs(is_bound(L, values), False)

    def test_keys_of_other_kinds(self):
        for other in (TextKind("c"), b"c", ("c",), 2, None, True, "C", 0, "cc", ""):
            self.assertIs(is_bound(L, {"a": 0, "b": 0, other: 0}), False)
        self.assertIs(is_bound(L, {TextKind("a"): 0, "b": 0, "c": 1}), False)
        self.assertIs(is_bound([(0, "a")], {0: 0}), False)

    def test_a_key_that_only_hashes_like_a_color(self):
        class Odd:
            def __hash__(self):
                return hash("a")

            def __eq__(self, other):
                raise RuntimeError("touched")

        self.assertIs(is_bound([(0, "a")], {Odd(): 0}), False)

    def test_other_containers(self):
        for at, value in enumerate(NO_BOUNDS):
            for lineup in (L, ONE):
                with self.subTest(at):
                    self.assertIs(is_bound(lineup, value), False)

    def test_all_small_values_for_small_lineups(self):
        for lineup in small_lineups(4, "abc"):
            if lineup[0][0] == 0:
                order = list(dict.fromkeys(colors_of(lineup)))
                for chosen in product(range(-1, 4), repeat=len(order)):
                    values = dict(zip(order, chosen))
                    expected = is_bound_by_hand(lineup, values)
                    if is_bound(lineup, values) is not expected:
                        self.fail((lineup, values))

    def test_four_colors(self):
        for text in ("abcd", "abccd", "dcbbaa", "bdbcca"):
            lineup = list(enumerate(text))
            for chosen in product(range(5), repeat=4):
                values = dict(zip("abcd", chosen))
                self.assertIs(is_bound(lineup, values), is_bound_by_hand(lineup, values))


class Greatest(unittest.TestCase):
    def test_example(self):
        self.assertEqual(greatest_bound(L), {"a": 0, "b": 0, "c": 1})

    def test_one_color(self):
        self.assertEqual(greatest_bound(ONE), {"q": 0})
        self.assertEqual(greatest_bound(ALIKE), {"e": 0})

    def test_values_worked_out(self):
        self.assertEqual(greatest_bound(list(enumerate("aabbcd"))), {"a": 0, "b": 0, "c": 2, "d": 3})
        self.assertEqual(greatest_bound(list(enumerate("abcccd"))), {"a": 0, "b": 0, "c": 1, "d": 3})
        self.assertEqual(greatest_bound(list(enumerate("abbbc"))), {"a": 0, "b": 0, "c": 1})

    def test_keys_in_the_order_of_the_colors(self):
        lineups = [L, M, N, ONE, MANY, [(1, "z"), (0, "a")]] + [mixed_lineup(40, LETTERS, k) for k in range(10)]
        for lineup in lineups:
            self.assertEqual("".join(greatest_bound(lineup)), colors_in_order(lineup))

    def test_at_least_as_great_as_any_other_bound(self):
        for lineup in small_lineups(4, "abcd"):
            if lineup[0][0] == 0:
                order = list(dict.fromkeys(colors_of(lineup)))
                found = greatest_bound(lineup)
                self.assertTrue(is_bound_by_hand(lineup, found))
                for chosen in product(range(5), repeat=len(order) - 1):
                    values = dict(zip(order, (0,) + chosen))
                    if is_bound_by_hand(lineup, values):
                        self.assertTrue(all(found[color] >= values[color] for color in order), (lineup, values))

    def test_large_lineups(self):
        for size in range(1, 27):
            lineup = mixed_lineup(60, LETTERS[:size], 40 + size)
            found = greatest_bound(lineup)
            self.assertTrue(is_bound_by_hand(lineup, found))
            self.assertIs(is_bound(lineup, found), True)
            # No value can be greater, because another value stops it.
            text = colors_of(lineup)
            for color in list(found)[1:]:
                ahead = text[:text.find(color)]
                limits = [found[other] + len(ahead) - ahead.count(other) for other in set(ahead)]
                self.assertEqual(found[color], min(limits))

    def test_kind_of_the_result(self):
        found = greatest_bound(L)
        self.assertIs(type(found), dict)
        self.assertTrue(all(type(color) is str and type(value) is int for color, value in found.items()))


class Value(unittest.TestCase):
    def test_example(self):
        self.assertEqual(bound_value(L, "c", {"a": 0, "b": 0, "c": 1}), 4)

    def test_the_value_of_the_foremost_color(self):
        self.assertEqual(bound_value(L, "c", {"a": 0, "b": 0, "c": 0}), 3)
        self.assertEqual(bound_value(L, "bc", {"a": 0, "b": 0, "c": 1}), 2)
        self.assertEqual(bound_value(L, "a", {"a": 0, "b": 0, "c": 1}), 2)
        self.assertEqual(bound_value(L, "abc", {"a": 0, "b": 0, "c": 1}), 0)
        # d stands in front of c, though its letter comes later.
        lineup = list(enumerate("abbdc"))
        self.assertEqual(bound_value(lineup, "cd", {"a": 0, "b": 0, "d": 1, "c": 2}), 3 + 1)

    def test_nobody_has_a_color_of_the_set(self):
        for colors in ("d", "z", "dz", LETTERS[3:]):
            self.assertIsNone(bound_value(L, colors, GREATEST))
        self.assertIsNone(bound_value(ONE, "a", {"q": 0}))

    def test_small_lineups(self):
        for lineup in small_lineups(3, "abc"):
            order = list(dict.fromkeys(colors_of(lineup)))
            greatest = greatest_bound(lineup)
            bounds = [dict(zip(order, chosen)) for chosen in product(range(4), repeat=len(order))]
            bounds = [values for values in bounds if is_bound_by_hand(lineup, values)]
            for colors in color_sets("abcd"):
                fewest = fewest_calls(lineup, colors)
                self.assertEqual(bound_value(lineup, colors, greatest), fewest)
                for values in bounds:
                    found = bound_value(lineup, colors, values)
                    place = goal_place(lineup, colors)
                    if place is None:
                        self.assertIsNone(found)
                    else:
                        expected = len(outside_by_hand(lineup, colors)) + values[lineup[place][1]]
                        self.assertEqual(found, expected)
                        self.assertLessEqual(found, fewest)

    def test_large_lineups(self):
        for size in (1, 2, 9, 26):
            lineup = mixed_lineup(60, LETTERS[:size], 90 + size)
            greatest = greatest_bound(lineup)
            order = list(greatest)
            nothing = {color: 0 for color in order}
            for k in range(len(order)):
                for colors in (order[k], "".join(sorted(order[k:])), "".join(sorted(order[k::3]))):
                    fewest = fewest_calls(lineup, colors)
                    self.assertEqual(bound_value(lineup, colors, greatest), fewest)
                    self.assertLessEqual(bound_value(lineup, colors, nothing), fewest)

    def test_kind_of_the_result(self):
        self.assertIs(type(bound_value(L, "c", GREATEST)), int)


class Errors(ErrorCase):
    def test_no_lineup(self):
        for at, value in enumerate(WRONG_LINEUPS):
            with self.subTest(at):
                self.assert_raises(InvalidLineupError, is_bound, value, {"a": 0})
                self.assert_raises(InvalidLineupError, greatest_bound, value)
                self.assert_raises(InvalidLineupError, bound_value, value, "a", {"a": 0})

    def test_no_color_set(self):
        for at, value in enumerate(WRONG_COLOR_SETS):
            with self.subTest(at):
                self.assert_raises(InvalidColorsError, bound_value, L, value, GREATEST)

    def test_no_bound(self):
        wrong = NO_BOUNDS + [
            {}, {"a": 0, "b": 0}, {**GREATEST, "d": 0}, {"a": 0, "b": 0, "c": 2}, {"a": 0, "b": 1, "c": 1},
            {"a": 0, "b": -1, "c": 0}, {"a": 0, "b": 0, "c": True}, {"a": 0, "b": 0, "c": "1"},
            {"a": 0, "b": 0, TextKind("c"): 0}, {"a": 0, "b": 0, "c": None}, {"a": 1, "b": 0, "c": 0},
        ]
        for at, value in enumerate(wrong):
            for colors in ("c", "a", "bc", "d"):
                with self.subTest(at=at, colors=colors):
                    self.assert_raises(InvalidBoundError, bound_value, L, colors, value)

    def test_the_lineup_is_looked_at_first_then_the_color_set(self):
        for lineup in ([], None, [(1, "a")], ((0, "a"),), [(0, "a"), (1, "B")]):
            for value in NO_BOUNDS + [{}, {"a": 0}]:
                self.assert_raises(InvalidLineupError, is_bound, lineup, value)
                for colors in ("a", "", None, ["a"], "ba"):
                    self.assert_raises(InvalidLineupError, bound_value, lineup, colors, value)
        for colors in ("", None, ["a"], "ba", "aa", "A"):
            for value in NO_BOUNDS + [{}, {"a": 0}]:
                self.assert_raises(InvalidColorsError, bound_value, L, colors, value)


if __name__ == "__main__":
    unittest.main()

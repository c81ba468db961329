"""Promises 16 and 17: optimal call lists, and the fewest calls after each call."""

import unittest
from itertools import product
from math import factorial

from lastother.errors import InvalidColorsError, InvalidLineupError, InvalidNumberError
from lastother.fewest import fewest_calls
from lastother.optimal import count_optimal, fewest_after_each, improving_people, is_optimal, nth_optimal
from tests.errorcase import ErrorCase
from tests.helpers import (
    L, LETTERS, M, N, WRONG_COLOR_SETS, WRONG_INTEGERS, WRONG_LINEUPS, ListKind, Touchy, call_by_hand, circle,
    color_sets, colors_of, mixed_lineup, outside_by_hand, small_lineups,
)
from tests.search import Search

ONE = [(0, "q")]
ALIKE = [(2, "e"), (0, "e"), (1, "e")]
MANY = [(k, LETTERS[25 - k]) for k in range(26)]
LARGEST = 10 ** 30

ALL_TEN = [
    [0, 0, 1, 3], [0, 0, 3, 1], [0, 1, 0, 3], [0, 1, 3, 0], [1, 0, 1, 3],
    [1, 0, 3, 1], [1, 1, 0, 3], [1, 1, 3, 0], [1, 3, 0, 1], [1, 3, 1, 0],
]


def wide_lineups():
    """Lineups of up to 60 people with up to 26 colors, and a color set for each, of few and of many colors."""
    for number, (size, count) in enumerate([(9, 3), (14, 5), (25, 8), (40, 13), (60, 2), (60, 5), (60, 16), (60, 26)]):
        lineup = mixed_lineup(size, LETTERS[:count], 40 + number)
        order = list(dict.fromkeys(colors_of(lineup)))
        for colors in (order[-1:], order[-len(order) // 2:], order[2:], order[:1], order[1::2]):
            if colors:
                yield lineup, "".join(sorted(colors))
    yield [(59 - k, LETTERS[min(k, 25)]) for k in range(60)], "z"
    yield [(k, LETTERS[max(0, k - 34)]) for k in range(60)], "z"
    yield [(k, LETTERS[k * 26 // 60]) for k in range(60)], "z"


def lists_by_hand(lineup, colors, longest):
    """The shortest call lists, in ascending list order, after which everybody has a color of the set."""
    for length in range(longest + 1):
        lists = []
        for calls in product(range(len(lineup)), repeat=length):
            current = lineup
            for person in calls:
                current, _ = call_by_hand(current, person)
            if not outside_by_hand(current, colors):
                lists.append(list(calls))
        if lists:
            return lists
    return []


class Small(unittest.TestCase):
    """Every lineup of up to four people against a search over all call lists."""

    @classmethod
    def setUpClass(cls):
        cls.searches = [Search(1, "abcd"), Search(2, "abcd"), Search(3, "abcd"), Search(4, "abcd")]

    def test_the_search_finds_all_call_lists(self):
        for search in self.searches[:3]:
            for colors in ("a", "bc", "acd"):
                lists = search.optimal_lists(colors)
                for lineup in search.lineups[::5]:
                    self.assertEqual(lists.get(lineup, []), lists_by_hand(list(lineup), colors, 5))

    def test_number_and_lists_by_index(self):
        for search in self.searches:
            for colors in color_sets("abcd"):
                expected = search.optimal_lists(colors)
                for lineup in search.lineups:
                    self.check(list(lineup), colors, expected.get(lineup, []))

    def check(self, lineup, colors, lists):
        if count_optimal(lineup, colors) != len(lists):
            self.fail((lineup, colors, count_optimal(lineup, colors), lists))
        found = [nth_optimal(lineup, colors, index) for index in range(len(lists) + 1)]
        if found != lists + [None]:
            self.fail((lineup, colors, found, lists))

    def test_which_call_lists_are_optimal(self):
        for search in self.searches[:3]:
            for colors in ("a", "cd", "bd"):
                expected = search.optimal_lists(colors)
                for lineup in search.lineups[::3]:
                    for length in range(5):
                        for calls in product(range(len(lineup)), repeat=length):
                            answer = list(calls) in expected.get(lineup, [])
                            found = is_optimal(list(lineup), colors, list(calls))
                            self.assertIs(found, answer, (lineup, colors, calls))

    def test_fewest_after_each_call(self):
        for search in self.searches:
            for colors in color_sets("abcd"):
                calls = search.calls_to_colors(colors)
                for lineup in search.lineups[::2]:
                    after = [calls.get(other) for other in search.afters[lineup]]
                    if fewest_after_each(list(lineup), colors) != after:
                        self.fail((lineup, colors, after))
                    better = []
                    if lineup in calls:
                        better = [person for person, left in enumerate(after) if left == calls[lineup] - 1]
                    if improving_people(list(lineup), colors) != better:
                        self.fail((lineup, colors, better))


class Examples(unittest.TestCase):
    def test_examples(self):
        self.assertEqual(count_optimal(L, "c"), 10)
        self.assertEqual(nth_optimal(L, "c", 4), [1, 0, 1, 3])
        self.assertIs(is_optimal(L, "c", [1, 3, 0, 1]), True)
        self.assertEqual(improving_people(L, "c"), [0, 1])
        self.assertEqual(fewest_after_each(L, "c"), [3, 3, None, 4])

    def test_all_lists_of_the_example(self):
        self.assertEqual([nth_optimal(L, "c", index) for index in range(10)], ALL_TEN)
        self.assertEqual(lists_by_hand(L, "c", 4), ALL_TEN)
        self.assertIsNone(nth_optimal(L, "c", 10))
        for calls in product(range(4), repeat=4):
            self.assertIs(is_optimal(L, "c", list(calls)), list(calls) in ALL_TEN)


class CountAndIndex(unittest.TestCase):
    def test_nobody_has_a_color_of_the_set(self):
        for lineup in (ONE, ALIKE, L, M, N):
            for colors in ("z", "xyz"):
                self.assertEqual(count_optimal(lineup, colors), 0)
                for index in (0, 1, LARGEST):
                    self.assertIsNone(nth_optimal(lineup, colors, index))

    def test_everybody_has_a_color_of_the_set(self):
        for lineup in (ONE, ALIKE, L, M, N, MANY):
            for colors in ("".join(sorted(set(colors_of(lineup)))), LETTERS):
                self.assertEqual(count_optimal(lineup, colors), 1)
                self.assertEqual(nth_optimal(lineup, colors, 0), [])
                self.assertIsNone(nth_optimal(lineup, colors, 1))
                self.assertIsNone(nth_optimal(lineup, colors, LARGEST))

    def test_the_front_color_is_in_the_set(self):
        # Everybody else takes the front color, in any order.
        self.assertEqual(count_optimal(MANY, "z"), factorial(25))
        self.assertEqual(nth_optimal(MANY, "z", 0), list(range(1, 26)))
        self.assertEqual(nth_optimal(MANY, "z", factorial(25) - 1), list(range(25, 0, -1)))
        self.assertIsNone(nth_optimal(MANY, "z", factorial(25)))
        self.assertEqual(count_optimal([(k, "ab"[k > 0]) for k in range(60)], "a"), factorial(59))

    def test_two_colors(self):
        # The first call is one of the front color, also of a person behind the goal; then any order.
        lineup = [(0, "a"), (1, "a"), (2, "b"), (3, "a")]
        self.assertEqual(count_optimal(lineup, "b"), 6)
        self.assertEqual(nth_optimal(lineup, "b", 5), [3, 1, 0])
        wide = [((k * 7) % 60, "ab"[k % 3 == 2]) for k in range(60)]
        self.assertEqual(count_optimal(wide, "b"), factorial(40))

    def test_the_largest_index(self):
        wide = [((k * 7) % 60, "ab"[k % 3 == 2]) for k in range(60)]
        self.assertEqual(fewest_calls(wide, "b"), len(nth_optimal(wide, "b", LARGEST)))
        self.assertIs(is_optimal(wide, "b", nth_optimal(wide, "b", LARGEST)), True)
        self.assertIsNone(nth_optimal(L, "c", LARGEST))
        # The index in a list of all permutations, by the place of each call among those that are left.
        index, left = LARGEST, list(range(1, 60))
        expected = []
        for size in range(59, 0, -1):
            expected.append(left.pop(index // factorial(size - 1)))
            index %= factorial(size - 1)
        self.assertEqual(nth_optimal([(k, "ab"[k > 0]) for k in range(60)], "a", LARGEST), expected)

    def test_wide_lineups_by_index(self):
        for lineup, colors in wide_lineups():
            count = count_optimal(lineup, colors)
            self.assertGreater(count, 0)
            indexes = [0, 1, 2, 3, 10, 1000, 10 ** 9, 10 ** 18 + 7, LARGEST - 1, LARGEST, count - 1, count, count + 1]
            before = []
            for index in sorted({index for index in indexes if 0 <= index <= LARGEST}):
                calls = nth_optimal(lineup, colors, index)
                if index >= count:
                    self.assertIsNone(calls)
                    continue
                self.assertIs(is_optimal(lineup, colors, calls), True)
                self.assertEqual(len(calls), fewest_calls(lineup, colors))
                current = lineup
                for person in calls:
                    current, _ = call_by_hand(current, person)
                self.assertEqual(outside_by_hand(current, colors), [])
                self.assertTrue(before < calls or before == calls == [])
                before = calls

    def test_every_index_of_a_wide_lineup(self):
        lineup = [(59 - k, "vwxyz"[min(k, 4)]) for k in range(60)]
        for colors in ("wxyz", "xyz", "yz"):
            lists = [nth_optimal(lineup, colors, index) for index in range(count_optimal(lineup, colors))]
            self.assertTrue(all(before < after for before, after in zip(lists, lists[1:])))
            self.assertTrue(all(is_optimal(lineup, colors, calls) for calls in lists))
            self.assertIsNone(nth_optimal(lineup, colors, len(lists)))

    def test_the_number_is_the_sum_over_the_first_calls(self):
        for lineup, colors in wide_lineups():
            if not outside_by_hand(lineup, colors):
                continue
            after = [call_by_hand(lineup, person)[0] for person in improving_people(lineup, colors)]
            self.assertEqual(count_optimal(lineup, colors), sum(count_optimal(other, colors) for other in after))

    def test_kinds_of_the_results(self):
        self.assertIs(type(count_optimal(L, "c")), int)
        self.assertIs(type(count_optimal(L, "z")), int)
        self.assertIs(type(count_optimal(L, "abc")), int)
        self.assertIs(type(nth_optimal(L, "abc", 0)), list)
        calls = nth_optimal(L, "c", 4)
        self.assertIs(type(calls), list)
        self.assertTrue(all(type(person) is int for person in calls))


class IsOptimal(unittest.TestCase):
    def test_longer_and_shorter_lists(self):
        for calls in ALL_TEN:
            self.assertIs(is_optimal(L, "c", calls[:-1]), False)
            self.assertIs(is_optimal(L, "c", calls[1:]), False)
            for person in range(4):
                self.assertIs(is_optimal(L, "c", calls + [person]), False)
                self.assertIs(is_optimal(L, "c", [person] + calls), False)
        self.assertIs(is_optimal(L, "c", []), False)
        self.assertIs(is_optimal(L, "abc", []), True)
        self.assertIs(is_optimal(L, "abc", [0]), False)

    def test_nobody_has_a_color_of_the_set(self):
        for value in ([], [0], ALL_TEN[0], None):
            self.assertIs(is_optimal(L, "z", value), False)

    def test_wide_lineups(self):
        for lineup, colors in wide_lineups():
            calls = nth_optimal(lineup, colors, min(12345, count_optimal(lineup, colors) - 1))
            self.assertIs(is_optimal(lineup, colors, calls), True)
            self.assertIs(is_optimal(lineup, colors, calls + [0]), False)
            if calls:
                self.assertIs(is_optimal(lineup, colors, calls[:-1]), False)
                self.assertIs(is_optimal(lineup, colors, calls[:-1] + [len(lineup)]), False)
                self.assertIs(is_optimal(lineup, colors, calls[:-1] + [-1]), False)
                self.assertIs(is_optimal(lineup, colors, tuple(calls)), False)

    def test_items_that_are_no_persons(self):
        for calls in (ALL_TEN[0], ALL_TEN[8]):
            for place in range(4):
                for wrong in WRONG_INTEGERS + [4, 10 ** 30, str(calls[place]), float(calls[place]), [calls[place]]]:
                    self.assertIs(is_optimal(L, "c", calls[:place] + [wrong] + calls[place + 1:]), False)
        self.assertIs(is_optimal(N, "b", [0]), True)
        self.assertIs(is_optimal(N, "b", [False]), False)
        self.assertIs(is_optimal(N, "a", [1]), True)
        self.assertIs(is_optimal(N, "a", [True]), False)

    def test_values_of_other_kinds(self):
        values = [
            (1, 3, 0, 1), "1301", b"1301", {1: 3}, {}, {0, 1, 3}, None, True, False, 0, 1, 4, 0.5, range(4),
            ListKind(ALL_TEN[0]), ListKind(), (), "", b"", set(), object(), Touchy(), circle(), list, L,
            [Touchy()] * 4, [circle()] * 4,
            [[1, 3, 0, 1]], [None] * 4, [()] * 4, iter(ALL_TEN[0]), list(range(200)), [0] * 5000,
        ]
        for at, value in enumerate(values):
            with self.subTest(at):
                self.assertIs(is_optimal(L, "c", value), False)
                self.assertIs(is_optimal(L, "abc", value), False)
                self.assertIs(is_optimal(L, "z", value), False)


class AfterEachCall(unittest.TestCase):
    def check(self, lineup, colors):
        before = fewest_calls(lineup, colors)
        after = [fewest_calls(call_by_hand(lineup, person)[0], colors) for person in range(len(lineup))]
        self.assertEqual(fewest_after_each(lineup, colors), after)
        better = [] if before is None else [person for person, left in enumerate(after) if left == before - 1]
        self.assertEqual(improving_people(lineup, colors), better)
        return before, after

    def test_small_lineups(self):
        for lineup in small_lineups(3, "abc"):
            for colors in list(color_sets("abc")) + ["d", "cd"]:
                self.check(lineup, colors)

    def test_wide_lineups(self):
        for lineup, colors in wide_lineups():
            before, after = self.check(lineup, colors)
            self.assertEqual(len(after), len(lineup))
            if before > 0:
                self.assertNotEqual(improving_people(lineup, colors), [])

    def test_nobody_has_a_color_of_the_set(self):
        for lineup in (ONE, ALIKE, L, MANY[:25]):
            self.assertEqual(improving_people(lineup, "a" if lineup[0][1] == "z" else "z"), [])
            self.assertEqual(fewest_after_each(lineup, "a" if lineup[0][1] == "z" else "z"), [None] * len(lineup))

    def test_everybody_has_a_color_of_the_set(self):
        for lineup in (ONE, ALIKE, L, MANY):
            self.assertEqual(improving_people(lineup, LETTERS), [])
            self.assertEqual(fewest_after_each(lineup, LETTERS), [0] * len(lineup))

    def test_nobody_has_a_color_of_the_set_after_the_call(self):
        self.assertEqual(fewest_after_each(N, "a"), [None, 0])
        self.assertEqual(fewest_after_each(N, "b"), [0, None])
        self.assertEqual(improving_people(N, "b"), [0])
        self.assertEqual(fewest_after_each(M, "c"), [2, 2, None])
        self.assertEqual(fewest_after_each(ONE, "q"), [0])

    def test_the_list_is_indexed_by_person(self):
        self.assertEqual(fewest_after_each([(1, "a"), (2, "b"), (0, "c")], "c"), [None, 2, 2])
        self.assertEqual(improving_people([(3, "a"), (1, "b"), (2, "c"), (0, "a")], "c"), [1, 3])

    def test_kinds_of_the_results(self):
        self.assertIs(type(improving_people(L, "c")), list)
        self.assertIs(type(improving_people(L, "z")), list)
        self.assertEqual([type(calls) for calls in fewest_after_each(L, "c")], [int, int, type(None), int])


class Errors(ErrorCase):
    def calls_with(self, lineup, colors):
        yield count_optimal, lineup, colors
        yield nth_optimal, lineup, colors, 0
        yield nth_optimal, lineup, colors, -1
        yield nth_optimal, lineup, colors, None
        yield is_optimal, lineup, colors, []
        yield is_optimal, lineup, colors, None
        yield improving_people, lineup, colors
        yield fewest_after_each, lineup, colors

    def test_no_lineup(self):
        for at, value in enumerate(WRONG_LINEUPS):
            for call in self.calls_with(value, "a"):
                with self.subTest(at=at, function=call[0].__name__):
                    self.assert_raises(InvalidLineupError, *call)

    def test_no_color_set(self):
        for at, value in enumerate(WRONG_COLOR_SETS):
            for lineup in (ONE, L, MANY):
                for call in self.calls_with(lineup, value):
                    with self.subTest(at=at, function=call[0].__name__):
                        self.assert_raises(InvalidColorsError, *call)

    def test_no_index(self):
        wrong = WRONG_INTEGERS + [LARGEST + 1, 10 ** 31 - 1, 1.0, [], "", "10"]
        for lineup, colors in ((L, "c"), (L, "z"), (L, "abc"), (ONE, "q"), (MANY, "a")):
            for at, value in enumerate(wrong):
                with self.subTest(lineup=lineup, at=at):
                    self.assert_raises(InvalidNumberError, nth_optimal, lineup, colors, value)

    def test_the_lineup_is_looked_at_first_then_the_color_set(self):
        for lineup in ([], None, [(1, "a")], ((0, "a"),), [(0, "a"), (1, "B")]):
            for colors in ("a", "", None, ["a"], "ba"):
                for call in self.calls_with(lineup, colors):
                    self.assert_raises(InvalidLineupError, *call)
        for colors in ("", None, ["a"], "ba", "aa", "A"):
            for index in (0, -1, True, "0", None, LARGEST + 1):
                self.assert_raises(InvalidColorsError, nth_optimal, L, colors, index)


if __name__ == "__main__":
    unittest.main()

"""Promises 24 and 25: which lineups are reachable from a small one, and by how many calls."""

import unittest
from itertools import permutations, product

from lastother.errors import InvalidLineupError, TooManyPeopleError
from lastother.small import count_reachable, farthest_reachable, fewest_calls_between, shortest_calls_between
from tests.errorcase import ErrorCase
from tests.helpers import L, M, N, WRONG_LINEUPS, call_by_hand, color_patterns, mixed_lineup

ONE = [(0, "q")]
ALIKE = [(2, "e"), (0, "e"), (1, "e")]
FIVE = [(k, "abcde"[k]) for k in range(5)]
SIXTY = mixed_lineup(60, "abc", 1)
BETWEEN = (fewest_calls_between, shortest_calls_between)


def lists_by_hand(lineup):
    """A dict from each reachable lineup to the smallest of the shortest call lists that lead to it."""
    lists = {tuple(lineup): []}
    newest = dict(lists)
    while newest:
        found = {}
        for before, calls in newest.items():
            for person in range(len(lineup)):
                after = tuple(call_by_hand(list(before), person)[0])
                if after not in lists:
                    found.setdefault(after, []).append(calls + [person])
        newest = {after: min(several) for after, several in found.items()}
        lists.update(newest)
    return lists


def patterns(size):
    """Every lineup of this many people, up to the names of its colors."""
    for colors in color_patterns(size):
        for order in permutations(range(size)):
            yield list(zip(order, colors))


class Reachable(unittest.TestCase):
    def check(self, lineup, lists):
        self.assertEqual(count_reachable(lineup), len(lists))
        lengths = [len(calls) for calls in lists.values()]
        self.assertEqual(farthest_reachable(lineup), (max(lengths), lengths.count(max(lengths))))

    def check_targets(self, lineup, lists, targets):
        for target in targets:
            expected = lists.get(tuple(target))
            if shortest_calls_between(lineup, list(target)) != expected:
                self.fail((lineup, target, expected))
            fewest = None if expected is None else len(expected)
            self.assertEqual(fewest_calls_between(lineup, list(target)), fewest)

    def test_examples(self):
        self.assertEqual(count_reachable(N), 5)
        self.assertEqual(fewest_calls_between(N, [(1, "b"), (0, "b")]), 2)
        self.assertEqual(shortest_calls_between(N, [(1, "b"), (0, "b")]), [0, 1])
        self.assertEqual(farthest_reachable(N), (2, 2))

    def test_the_first_lists_of_the_search_among_all_call_lists(self):
        for lineup in (M, [(2, "b"), (0, "a"), (1, "b")], L):
            lists = lists_by_hand(lineup)
            seen = {}
            for length in range(6):
                for calls in product(range(len(lineup)), repeat=length):
                    current = lineup
                    for person in calls:
                        current, _ = call_by_hand(current, person)
                    seen.setdefault(tuple(current), list(calls))
            self.assertEqual({target: calls for target, calls in lists.items() if len(calls) < 6}, seen)

    def test_up_to_three_people_and_all_targets(self):
        for size in (1, 2, 3):
            for lineup in patterns(size):
                lists = lists_by_hand(lineup)
                self.check(lineup, lists)
                self.check_targets(lineup, lists, lists)
                others = [list(zip(order, "abc")) for order in permutations(range(size))]
                self.check_targets(lineup, lists, others + [[(person, "z") for person, _ in lineup]])

    def test_four_people(self):
        for lineup in patterns(4):
            lists = lists_by_hand(lineup)
            self.check(lineup, lists)
            targets = list(lists)
            self.check_targets(lineup, lists, [targets[1], targets[len(targets) // 2], targets[-1]])

    def test_four_people_and_many_targets(self):
        for lineup in ([(2, "b"), (0, "a"), (3, "c"), (1, "a")], [(3, "x"), (1, "y"), (2, "z"), (0, "k")]):
            lists = lists_by_hand(lineup)
            self.check(lineup, lists)
            self.check_targets(lineup, lists, list(lists)[::9])

    def test_the_names_of_the_colors_do_not_count(self):
        for colors in ("dcba", "zyzx", "bbaa"):
            lineup = list(zip((1, 3, 0, 2), colors))
            self.check(lineup, lists_by_hand(lineup))

    def test_the_lineup_itself(self):
        for lineup in (ONE, ALIKE, L, M, N):
            self.assertEqual(fewest_calls_between(lineup, list(lineup)), 0)
            self.assertEqual(shortest_calls_between(lineup, list(lineup)), [])
            self.assertEqual(fewest_calls_between(lineup, lineup), 0)

    def test_one_person(self):
        self.assertEqual(count_reachable(ONE), 1)
        self.assertEqual(farthest_reachable(ONE), (0, 1))
        self.assertIsNone(shortest_calls_between(ONE, [(0, "a")]))

    def test_one_color(self):
        # All orders of the people, and nothing else.
        self.assertEqual(count_reachable(ALIKE), 6)
        self.assertEqual(count_reachable([(k, "e") for k in range(4)]), 24)
        self.assertEqual(shortest_calls_between(ALIKE, [(1, "e"), (0, "e"), (2, "e")]), [0, 1])
        self.assertIsNone(shortest_calls_between(ALIKE, [(1, "f"), (0, "f"), (2, "f")]))

    def test_a_target_that_is_not_reachable(self):
        unreachable = [
            [(0, "a"), (1, "c"), (2, "b")], [(1, "b"), (0, "a"), (2, "c")], [(0, "d"), (1, "b"), (2, "c")],
            [(0, "x"), (1, "y"), (2, "z")],
        ]
        for target in unreachable:
            for function in BETWEEN:
                self.assertIsNone(function(M, target))

    def test_another_number_of_people(self):
        for lineup in (ONE, N, M, L):
            for target in (ONE, N, M, L, [(0, "a")], [(0, "a"), (1, "a")]):
                if len(lineup) != len(target):
                    for function in BETWEEN:
                        self.assertIsNone(function(lineup, target))

    def test_the_smallest_of_several_lists(self):
        lists = lists_by_hand(L)
        several = 0
        for target, calls in lists.items():
            if len(calls) == 3:
                ways = []
                for other in product(range(4), repeat=3):
                    current = L
                    for person in other:
                        current, _ = call_by_hand(current, person)
                    if tuple(current) == target:
                        ways.append(list(other))
                several += len(ways) > 1
                self.assertEqual(shortest_calls_between(L, list(target)), min(ways))
        self.assertGreater(several, 1)

    def test_kinds_of_the_results(self):
        self.assertIs(type(count_reachable(L)), int)
        self.assertIs(type(fewest_calls_between(M, M)), int)
        calls = shortest_calls_between(N, [(1, "b"), (0, "b")])
        self.assertIs(type(calls), list)
        self.assertEqual([type(person) for person in calls], [int, int])
        farthest = farthest_reachable(L)
        self.assertIs(type(farthest), tuple)
        self.assertEqual([type(part) for part in farthest], [int, int])


class Errors(ErrorCase):
    def assert_people(self, people, function, *args):
        self.assert_same(people, self.assert_raises(TooManyPeopleError, function, *args).people)

    def test_no_lineup(self):
        for at, value in enumerate(WRONG_LINEUPS):
            with self.subTest(at):
                self.assert_raises(InvalidLineupError, count_reachable, value)
                self.assert_raises(InvalidLineupError, farthest_reachable, value)
                for function in BETWEEN:
                    for other in (M, FIVE, value):
                        self.assert_raises(InvalidLineupError, function, value, other)
                        self.assert_raises(InvalidLineupError, function, other, value)

    def test_too_many_people(self):
        for size in range(5, 61):
            lineup = [(size - 1 - k, "abc"[k % 3]) for k in range(size)]
            self.assert_people(size, count_reachable, lineup)
            self.assert_people(size, farthest_reachable, lineup)
            for function in BETWEEN:
                self.assert_people(size, function, lineup, lineup)
                self.assert_people(size, function, lineup, M)
                self.assert_people(size, function, M, lineup)

    def test_the_first_of_the_two_counts(self):
        for function in BETWEEN:
            self.assert_people(5, function, FIVE, SIXTY)
            self.assert_people(60, function, SIXTY, FIVE)


if __name__ == "__main__":
    unittest.main()

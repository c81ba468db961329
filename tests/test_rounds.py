"""Promises 20 and 21: repeated rounds of calls, and the colors left after calling everybody once."""

import unittest
from itertools import permutations, product

from lastother.errors import InvalidLineupError, InvalidNumberError, InvalidOrderError
from lastother.rounds import colors_left_by, lineup_after_rounds, round_period, rounds_until_one_color
from tests.errorcase import ErrorCase
from tests.helpers import (
    L, LETTERS, M, N, WRONG_INTEGERS, WRONG_LINEUPS, WRONG_LISTS, ListKind, Touchy, call_by_hand, circle,
    color_patterns, colors_of, long_calls, mixed_lineup, small_lineups,
)

ONE = [(0, "q")]
ALIKE = [(2, "e"), (0, "e"), (1, "e")]
MANY = [(25 - k, LETTERS[k]) for k in range(26)]
SIXTY = mixed_lineup(60, "abcde", 9)
LARGEST = 10 ** 30


def rounds_by_hand(lineup, calls, rounds):
    """The lineups after 0, 1, 2 .. rounds, applied one by one."""
    lineups = [lineup]
    for _ in range(rounds):
        current = lineups[-1]
        for person in calls:
            current, _ = call_by_hand(current, person)
        lineups.append(current)
    return lineups


def period_by_hand(lineups):
    """The smallest number of rounds whose lineup comes again, and after how many more rounds it does."""
    for first, lineup in enumerate(lineups):
        if lineup in lineups[first + 1:]:
            return first, lineups[first + 1:].index(lineup) + 1
    return None


class Rounds(unittest.TestCase):
    def check(self, lineup, calls, enough):
        lineups = rounds_by_hand(lineup, calls, enough)
        first, period = period_by_hand(lineups)
        if round_period(lineup, calls) != (first, period) or period not in (1, 2):
            self.fail((lineup, calls, round_period(lineup, calls), first, period))
        for rounds in (0, 1, 2, first, first + 1, enough):
            self.assertEqual(lineup_after_rounds(lineup, calls, rounds), lineups[rounds])
        for many in (10 ** 9, LARGEST - 1, LARGEST):
            rest = first + (many - first) % period
            self.assertEqual(lineup_after_rounds(lineup, calls, many), lineups[rest])
        alone = [rounds for rounds, current in enumerate(lineups) if len(set(colors_of(current))) == 1]
        self.assertEqual(rounds_until_one_color(lineup, calls), alone[0] if alone else None)
        return first, period

    def test_examples(self):
        self.assertEqual(round_period(M, [0]), (1, 2))
        self.assertEqual(round_period(M, [0, 0]), (1, 1))
        self.assertEqual(round_period(M, [0, 1]), (2, 1))
        self.assertEqual(lineup_after_rounds(M, [0], 10 ** 30), [(0, "c"), (1, "b"), (2, "c")])
        self.assertEqual(rounds_until_one_color(M, [0, 1]), 2)

    def test_one_person(self):
        for calls in ([0], [0, 0], [0] * 200):
            self.assertEqual(self.check(ONE, calls, 4), (0, 1))
            self.assertEqual(rounds_until_one_color(ONE, calls), 0)

    def test_one_color(self):
        # The order can still change in the first round.
        self.assertEqual(self.check(ALIKE, [2], 4), (0, 1))
        self.assertEqual(self.check(ALIKE, [1], 4), (1, 1))
        self.assertEqual(self.check(ALIKE, [0, 1, 2], 4), (1, 1))
        self.assertEqual(rounds_until_one_color(ALIKE, [0, 1, 2]), 0)

    def test_this_never_happens(self):
        self.assertIsNone(rounds_until_one_color(M, [0]))
        self.assertIsNone(rounds_until_one_color(L, [2]))
        self.assertIsNone(rounds_until_one_color(MANY, [0]))

    def test_a_moment_within_a_round_does_not_count(self):
        # After the first of the two calls all people have one color, after the second one, too.
        self.assertEqual(rounds_until_one_color(N, [0, 1]), 1)
        lineups = rounds_by_hand([(0, "a"), (1, "b"), (2, "b")], [0, 1, 0], 5)
        alone = [len(set(colors_of(current))) == 1 for current in lineups]
        self.assertEqual(alone.index(True), rounds_until_one_color([(0, "a"), (1, "b"), (2, "b")], [0, 1, 0]))

    def test_small_lineups(self):
        found = set()
        for lineup in small_lineups(3, "abc"):
            for length in (1, 2, 3):
                for calls in product(range(len(lineup)), repeat=length):
                    found.add(self.check(lineup, list(calls), 8))
        self.assertEqual(found, {(0, 1), (1, 1), (2, 1), (0, 2), (1, 2)})

    def test_four_people(self):
        for lineup in small_lineups(4, "abcd"):
            if len(lineup) == 4 and [person for person, _ in lineup] in ([0, 1, 2, 3], [2, 0, 3, 1]):
                for calls in ([0], [1, 0], [3, 1], [0, 1, 2], [2, 3, 2, 0], [0, 1, 2, 3], [1, 1, 3, 0, 2]):
                    self.check(lineup, calls, 10)

    def test_two_colors(self):
        for number in range(6):
            lineup = mixed_lineup(12, "ab", number)
            for length in (1, 3, 12, 30):
                self.check(lineup, long_calls(12, length, number), 20)

    def test_many_colors(self):
        for size in (13, 26):
            for number in range(3):
                lineup = mixed_lineup(40, LETTERS[:size], number)
                for length in (1, 2, 5, 40):
                    self.check(lineup, long_calls(40, length, number), 60)
        self.check(MANY, list(range(26)), 60)
        self.check(MANY, list(range(25, -1, -1)), 60)
        self.check(MANY, [0, 1], 60)

    def test_sixty_people(self):
        lineup = mixed_lineup(60, LETTERS, 5)
        self.check(lineup, list(range(60)), 60)
        self.check(lineup, long_calls(60, 200), 60)
        self.check(lineup, [7], 60)

    def test_the_lineup_after_no_round_is_a_new_list(self):
        first, second = lineup_after_rounds(M, [0], 0), lineup_after_rounds(M, [0], 0)
        self.assertEqual(first, M)
        self.assertIsNot(first, M)
        self.assertIsNot(first, second)

    def test_kinds_of_the_results(self):
        found = round_period(M, [0])
        self.assertIs(type(found), tuple)
        self.assertEqual([type(part) for part in found], [int, int])
        for rounds in (0, 1, LARGEST):
            after = lineup_after_rounds(M, [0, 1], rounds)
            self.assertIs(type(after), list)
            self.assertTrue(all(type(pair) is tuple for pair in after))
        self.assertIs(type(rounds_until_one_color(M, [0, 1])), int)


class Orders(unittest.TestCase):
    def check(self, lineup, order):
        current = lineup
        for person in order:
            current, _ = call_by_hand(current, person)
        expected = "".join(sorted(set(colors_of(current))))
        if colors_left_by(lineup, order) != expected or len(expected) not in (1, 2):
            self.fail((lineup, order, colors_left_by(lineup, order), expected))
        return expected

    def test_example(self):
        self.assertEqual(colors_left_by(M, [1, 0, 2]), "ac")

    def test_one_person_and_one_color(self):
        self.assertEqual(colors_left_by(ONE, [0]), "q")
        for order in permutations(range(3)):
            self.assertEqual(colors_left_by(ALIKE, list(order)), "e")

    def test_every_order_of_up_to_four_people(self):
        found = set()
        for lineup in small_lineups(4, "abcd"):
            for order in permutations(range(len(lineup))):
                found.add(self.check(lineup, list(order)))
        self.assertEqual(found, {"a", "b", "c", "d", "ab", "ac", "ad", "bc", "bd", "cd"})

    def test_every_order_of_five_people(self):
        for colors in color_patterns(5):
            for persons in ([0, 1, 2, 3, 4], [3, 0, 4, 1, 2]):
                for order in permutations(range(5)):
                    self.check(list(zip(persons, colors)), list(order))

    def test_orders_of_sixty_people(self):
        for number in range(20):
            lineup = mixed_lineup(60, LETTERS[:1 + number], number)
            for other in (number, number + 30, number + 60):
                self.check(lineup, [person for person, _ in mixed_lineup(60, "a", other)])
            self.check(lineup, list(range(60)))
            self.check(lineup, list(range(59, -1, -1)))

    def test_kinds_of_the_results(self):
        self.assertIs(type(colors_left_by(M, [0, 1, 2])), str)
        self.assertIs(type(colors_left_by(ONE, [0])), str)


class Errors(ErrorCase):
    def calls_with(self, lineup, calls):
        yield round_period, lineup, calls
        for rounds in (0, 1, -1, True, None, LARGEST + 1):
            yield lineup_after_rounds, lineup, calls, rounds
        yield rounds_until_one_color, lineup, calls

    def test_no_lineup(self):
        for at, value in enumerate(WRONG_LINEUPS):
            for call in self.calls_with(value, [0]):
                with self.subTest(at=at, function=call[0].__name__):
                    self.assert_raises(InvalidLineupError, *call)
            for order in ([0], [], None):
                self.assert_raises(InvalidLineupError, colors_left_by, value, order)

    def test_the_empty_call_list(self):
        for lineup in (ONE, ALIKE, L, SIXTY):
            for call in self.calls_with(lineup, []):
                self.assert_index(0, *call)

    def test_no_call_list(self):
        self.assert_wrong_calls(self.calls_with)

    def test_no_number_of_rounds(self):
        for lineup, calls in ((ONE, [0]), (M, [0]), (SIXTY, [3, 5])):
            for at, wrong in enumerate(WRONG_INTEGERS + [LARGEST + 1, 10 ** 31 - 1, "1", 1.0, [1]]):
                with self.subTest(lineup=lineup, at=at):
                    self.assert_raises(InvalidNumberError, lineup_after_rounds, lineup, calls, wrong)

    def test_no_order(self):
        wrong = WRONG_LISTS + [
            [], [0], [0, 1], [1, 2], [0, 1, 1], [0, 0, 2], [0, 1, 2, 2], [0, 1, 2, 0], [0, 1, 2, 3], [1, 2, 3],
            [0, 1, 3], [-1, 0, 1], [0, 1, -1], [0, True, 2], [False, 1, 2], [0, 1, "2"], ["0", "1", "2"],
            [0, 1, None], [0, 1, 2.0], [0, 1, [2]], [0, 1, (2,)], [0, 1, 10 ** 30], (0, 1, 2), (1, 0, 2), "012",
            {0: 0, 1: 1, 2: 2}, {0, 1, 2},
            ListKind([0, 1, 2]), [0, 1, Touchy()], circle(), M, list(range(60)), list(range(200)), [[0, 1, 2]], 0.5,
        ]
        for at, value in enumerate(wrong):
            with self.subTest(at):
                self.assert_raises(InvalidOrderError, colors_left_by, M, value)
        for value in ([], [1], [0, 0], [True], [False], (0,), None):
            self.assert_raises(InvalidOrderError, colors_left_by, ONE, value)
        self.assert_raises(InvalidOrderError, colors_left_by, SIXTY, list(range(59)))
        self.assert_raises(InvalidOrderError, colors_left_by, SIXTY, list(range(61)))
        self.assert_raises(InvalidOrderError, colors_left_by, SIXTY, list(range(59)) + [0])

    def test_the_lineup_is_looked_at_first_then_the_calls(self):
        for lineup in ([], None, [(1, "a")], ((0, "a"),), [(0, "a"), (1, "B")]):
            for wrong in WRONG_LISTS + [[], [True], [-1], [99], ["0"]]:
                for call in self.calls_with(lineup, wrong):
                    self.assert_raises(InvalidLineupError, *call)
                self.assert_raises(InvalidLineupError, colors_left_by, lineup, wrong)


if __name__ == "__main__":
    unittest.main()

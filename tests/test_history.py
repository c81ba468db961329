"""Promises 18 and 19: the history of the colors, and calls that are left out or swapped."""

import unittest
from itertools import product

from lastother.errors import InvalidLineupError, InvalidNumberError
from lastother.history import can_swap_calls, changed_without, color_history, redundant_calls
from tests.errorcase import ErrorCase
from tests.helpers import (
    L, LETTERS, M, N, WRONG_INTEGERS, WRONG_LINEUPS, WRONG_LISTS, call_by_hand, long_calls, mixed_lineup, small_lineups,
)

ONE = [(0, "q")]
ALIKE = [(2, "e"), (0, "e"), (1, "e")]
MANY = [(25 - k, LETTERS[k]) for k in range(26)]
SIXTY = mixed_lineup(60, "abcde", 9)


def history_by_hand(lineup, calls):
    """The colors of each person at the start and at each call at which it takes one."""
    history = {person: [(0, color)] for person, color in lineup}
    current = lineup
    for number, person in enumerate(calls, start=1):
        current, taken = call_by_hand(current, person)
        if taken is not None:
            history[person] += [(number, taken)]
    return [history[person] for person in range(len(lineup))]


def worn_by_hand(lineup, calls):
    """A dict from each person to its color after all calls."""
    for person in calls:
        lineup, _ = call_by_hand(lineup, person)
    return dict(lineup)


def changed_by_hand(lineup, calls, number):
    """The persons with another color at the end if the call with this number is left out."""
    with_it = worn_by_hand(lineup, calls)
    without = worn_by_hand(lineup, [person for k, person in enumerate(calls, start=1) if k != number])
    return [person for person in range(len(lineup)) if with_it[person] != without[person]]


def swap_by_hand(lineup, calls, number):
    """Whether everybody has the same color with the call of this number and the next one swapped."""
    swapped = calls[:number - 1] + [calls[number], calls[number - 1]] + calls[number + 1:]
    return worn_by_hand(lineup, swapped) == worn_by_hand(lineup, calls)


class Histories(unittest.TestCase):
    def check(self, lineup, calls):
        history = color_history(lineup, calls)
        self.assertEqual(history, history_by_hand(lineup, calls))
        self.assertEqual(len({id(entry) for entry in history}), len(lineup))
        return history

    def test_example(self):
        expected = [[(0, "a"), (2, "c")], [(0, "b"), (1, "a")], [(0, "c")], [(0, "a")]]
        self.assertEqual(color_history(L, [1, 0]), expected)

    def test_no_calls(self):
        self.assertEqual(color_history(M, []), [[(0, "a")], [(0, "b")], [(0, "c")]])
        self.assertEqual(color_history(ONE, []), [[(0, "q")]])

    def test_it_is_indexed_by_person(self):
        history = color_history([(2, "c"), (0, "a"), (1, "b")], [0])
        self.assertEqual(history, [[(0, "a"), (1, "c")], [(0, "b")], [(0, "c")]])

    def test_people_who_are_never_called(self):
        history = self.check(SIXTY, [5, 17, 5, 5, 17])
        for person, entries in enumerate(history):
            if person not in (5, 17):
                self.assertEqual(entries, [(0, dict(SIXTY)[person])])

    def test_calls_that_take_no_color(self):
        self.assertEqual(color_history(ONE, [0, 0]), [[(0, "q")]])
        self.assertEqual(color_history(ALIKE, [1, 2, 1, 0]), [[(0, "e")], [(0, "e")], [(0, "e")]])
        self.assertEqual(color_history(N, [1, 0, 1]), [[(0, "a")], [(0, "b"), (1, "a")]])

    def test_the_same_person_again_and_again(self):
        self.assertEqual(color_history(M, [0, 0, 0])[0], [(0, "a"), (1, "b"), (2, "c"), (3, "b")])

    def test_small_lineups(self):
        for lineup in small_lineups(3, "abc"):
            for length in range(4):
                for calls in product(range(len(lineup)), repeat=length):
                    self.check(lineup, list(calls))

    def test_wide_lineups(self):
        for lineup in (MANY, SIXTY):
            self.check(lineup, long_calls(len(lineup), 200))

    def test_the_inner_lists_are_all_different_objects(self):
        first, second = color_history(ALIKE, [0]), color_history(ALIKE, [0])
        inner = first + second
        self.assertEqual(len({id(entry) for entry in inner}), 6)
        first[0].append("more")
        self.assertEqual(first[1:], [[(0, "e")], [(0, "e")]])
        self.assertEqual(second, [[(0, "e")]] * 3)

    def test_kinds_of_the_results(self):
        history = color_history(L, [1, 0])
        self.assertIs(type(history), list)
        for entries in history:
            self.assertIs(type(entries), list)
            for entry in entries:
                self.assertIs(type(entry), tuple)
                self.assertEqual([type(part) for part in entry], [int, str])


class LeftOutAndSwapped(unittest.TestCase):
    def check(self, lineup, calls):
        redundant = []
        for number in range(1, len(calls) + 1):
            changed = changed_by_hand(lineup, calls, number)
            self.assertEqual(changed_without(lineup, calls, number), changed, (lineup, calls, number))
            if not changed:
                redundant.append(number)
            if number < len(calls):
                swap = swap_by_hand(lineup, calls, number)
                self.assertIs(can_swap_calls(lineup, calls, number), swap, (lineup, calls, number))
        self.assertEqual(redundant_calls(lineup, calls), redundant, (lineup, calls))
        return redundant

    def test_examples(self):
        self.assertEqual(changed_without(L, [1, 0], 1), [0, 1])
        self.assertEqual(redundant_calls(N, [1, 0]), [2])
        self.assertIs(can_swap_calls(L, [1, 0], 1), False)
        self.assertIs(can_swap_calls(L, [1, 2], 1), True)

    def test_no_calls(self):
        for lineup in (ONE, ALIKE, L, SIXTY):
            self.assertEqual(redundant_calls(lineup, []), [])

    def test_one_call(self):
        self.assertEqual(changed_without(L, [2], 1), [2])
        self.assertEqual(redundant_calls(L, [2]), [])
        self.assertEqual(changed_without(ALIKE, [2], 1), [])
        self.assertEqual(redundant_calls(ALIKE, [2]), [1])

    def test_the_order_of_the_lineup_does_not_count(self):
        # Without either call, and with both swapped, the people stand in another order.
        self.assertEqual(redundant_calls(ALIKE, [1, 0]), [1, 2])
        self.assertIs(can_swap_calls(ALIKE, [1, 0], 1), True)
        self.assertIs(can_swap_calls(L, [1, 2], 1), True)

    def test_each_call_is_left_out_alone(self):
        # Either of the calls can be left out, but not both at once.
        self.assertEqual(redundant_calls(N, [0, 0]), [1, 2])
        self.assertEqual(changed_by_hand(N, [0], 1), [0])

    def test_the_same_person_twice(self):
        self.assertIs(can_swap_calls(L, [2, 2], 1), True)
        self.assertIs(can_swap_calls(M, [0, 0, 1], 1), True)

    def test_small_lineups(self):
        found = set()
        for lineup in small_lineups(3, "abc"):
            for length in range(4):
                for calls in product(range(len(lineup)), repeat=length):
                    found.add(tuple(self.check(lineup, list(calls))))
        self.assertGreater(len(found), 5)

    def test_four_people_and_five_calls(self):
        for lineup in (L, [(2, "d"), (0, "a"), (3, "c"), (1, "b")], [(3, "a"), (2, "b"), (1, "a"), (0, "b")]):
            for calls in product(range(4), repeat=5):
                self.check(lineup, list(calls))

    def test_wide_lineups(self):
        self.check(MANY, long_calls(26, 40))
        self.check(SIXTY, long_calls(60, 40))
        self.check(SIXTY, long_calls(6, 40))

    def test_two_hundred_calls(self):
        calls = long_calls(60, 200)
        for number in (1, 2, 100, 199, 200):
            self.assertEqual(changed_without(SIXTY, calls, number), changed_by_hand(SIXTY, calls, number))
        for number in (1, 2, 100, 198, 199):
            self.assertIs(can_swap_calls(SIXTY, calls, number), swap_by_hand(SIXTY, calls, number))
        expected = [number for number in range(1, 201) if not changed_by_hand(SIXTY, calls, number)]
        self.assertEqual(redundant_calls(SIXTY, calls), expected)

    def test_kinds_of_the_results(self):
        for found in (changed_without(L, [1, 0], 1), redundant_calls(N, [1, 0]), redundant_calls(N, [])):
            self.assertIs(type(found), list)
            self.assertTrue(all(type(item) is int for item in found))


class Errors(ErrorCase):
    def calls_with(self, lineup, calls):
        for number in (1, 0, -1, True, None):
            yield changed_without, lineup, calls, number
            yield can_swap_calls, lineup, calls, number
        yield color_history, lineup, calls
        yield redundant_calls, lineup, calls

    def test_no_lineup(self):
        for at, value in enumerate(WRONG_LINEUPS):
            for call in self.calls_with(value, [0, 0]):
                with self.subTest(at=at, function=call[0].__name__):
                    self.assert_raises(InvalidLineupError, *call)

    def test_no_call_list(self):
        self.assert_wrong_calls(self.calls_with)

    def test_no_number_of_a_call(self):
        for calls in ([], [0], [0, 1], [0, 1, 3, 2, 2]):
            for at, wrong in enumerate(WRONG_INTEGERS + [0, len(calls) + 1, len(calls) + 2, 10 ** 30, "1", 1.0]):
                with self.subTest(calls=calls, at=at):
                    self.assert_raises(InvalidNumberError, changed_without, L, calls, wrong)
                    self.assert_raises(InvalidNumberError, can_swap_calls, L, calls, wrong)

    def test_the_last_call_has_no_next_call(self):
        for calls in ([0], [0, 1], [1, 1, 1], long_calls(4, 200)):
            self.assert_raises(InvalidNumberError, can_swap_calls, L, calls, len(calls))
            self.assertEqual(changed_without(L, calls, len(calls)), changed_by_hand(L, calls, len(calls)))

    def test_the_lineup_is_looked_at_first_then_the_calls(self):
        for lineup in ([], None, [(1, "a")], ((0, "a"),), [(0, "a"), (1, "B")]):
            for wrong in WRONG_LISTS + [[True], [-1], [99], ["0"], []]:
                for call in self.calls_with(lineup, wrong):
                    self.assert_raises(InvalidLineupError, *call)
        for number in WRONG_INTEGERS + [0, 1, 2, 3]:
            for function in (changed_without, can_swap_calls):
                self.assert_index(1, function, L, [0, 4], number)
                self.assert_index(None, function, L, (0, 1), number)


if __name__ == "__main__":
    unittest.main()

"""Promise 4: what holds for every lineup and every call list."""

import unittest
from itertools import product

from lastother.called import called_colors, color_arrivals, single_color_moments
from lastother.calls import color_taken, colors_taken, colors_taken_by_each, lineup_after
from lastother.certificates import bound_value, calls_for_chain, chain_cost, greatest_bound
from lastother.fewest import best_chain, fewest_calls
from lastother.history import color_history
from lastother.inverse import can_follow_call
from lastother.optimal import count_optimal, improving_people, is_optimal, nth_optimal
from lastother.rounds import lineup_after_rounds, round_period
from tests.helpers import color_sets, long_calls, outside_by_hand, small_lineups

WIDE = [((k * 11) % 40, "abcdefgh"[k * k % 8]) for k in range(40)]


def first_two_colors(others):
    """The first color of these people, and the next different one, as far as there are such."""
    return list(dict.fromkeys(color for _, color in others))[:2]


class OnlyTheOthers(unittest.TestCase):
    def check(self, lineup, person):
        others = [pair for pair in lineup if pair[0] != person]
        own = dict(lineup)[person]
        expected = ([color for color in first_two_colors(others) if color != own] + [None])[0]
        for place in range(len(lineup)):
            moved = others[:place] + [(person, own)] + others[place:]
            self.assertEqual(color_taken(moved, person), expected)
            self.assertEqual(colors_taken_by_each(moved)[person], expected)
            self.assertEqual(colors_taken(moved, [person]), [expected])

    def test_small_lineups(self):
        for lineup in small_lineups(4, "abc"):
            for person in range(len(lineup)):
                self.check(lineup, person)

    def test_a_wide_lineup(self):
        for person in range(0, 40, 7):
            self.check(WIDE, person)

    def test_where_a_call_can_be_reversed(self):
        for size, letters in ((2, "abc"), (3, "abc")):
            lineups = [lineup for lineup in small_lineups(size, letters) if len(lineup) == size]
            after_a_call = []
            for lineup in lineups:
                after_a_call.extend(lineup_after(lineup, [person]) for person in range(size))
            for lineup in lineups:
                reversible = lineup[0][1] in first_two_colors(lineup[1:])
                self.assertEqual(lineup in after_a_call, reversible, lineup)
                self.assertIs(can_follow_call(lineup), reversible)


class CalledPeople(unittest.TestCase):
    def check(self, lineup, calls):
        called = []
        before = []
        current = lineup
        for person, taken in zip(calls, colors_taken(lineup, calls)):
            if person in called and len(before) == 2:
                own = dict(current)[person]
                self.assertEqual([taken], [color for color in before if color != own])
            current = lineup_after(current, [person])
            called.append(person)
            colors = sorted({color for someone, color in current if someone in called})
            self.assertLessEqual(len(colors), 2)
            if len(before) == 2:
                self.assertLessEqual(set(colors), set(before))
            before = colors
        self.assertTrue(all(len(text) <= 2 for text in called_colors(lineup, calls)))
        alone = single_color_moments(lineup, calls)
        for k, _ in color_arrivals(lineup, calls):
            self.assertTrue(k == 1 or k - 1 in alone)

    def test_small_lineups(self):
        for lineup in small_lineups(3, "abc"):
            for calls in product(range(len(lineup)), repeat=4):
                self.check(lineup, list(calls))

    def test_a_wide_lineup(self):
        self.check(WIDE, long_calls(40, 200))


class FewestCalls(unittest.TestCase):
    def check(self, lineup, colors):
        """Check the number of calls in each way that the package has to tell it; return it."""
        chain = best_chain(lineup, colors)
        fewest = fewest_calls(lineup, colors)
        if chain is None:
            self.assertIsNone(fewest)
            self.assertEqual(count_optimal(lineup, colors), 0)
            return None
        self.assertEqual(fewest, chain_cost(lineup, colors, chain))
        self.assertEqual(fewest, bound_value(lineup, colors, greatest_bound(lineup)))
        self.assertIs(is_optimal(lineup, colors, calls_for_chain(lineup, colors, chain)), True)
        optimal = [nth_optimal(lineup, colors, index) for index in range(count_optimal(lineup, colors))]
        first = {person for calls in optimal for person in calls[:1]}
        self.assertEqual(sorted(first), improving_people(lineup, colors))
        return fewest

    def test_all_call_lists_of_this_length_are_counted_and_indexed(self):
        for lineup in small_lineups(3, "abc"):
            for colors in list(color_sets("abc")) + ["d"]:
                fewest = self.check(lineup, colors)
                if fewest is None:
                    continue
                lists = [list(calls) for calls in product(range(len(lineup)), repeat=fewest)]
                optimal = [calls for calls in lists if not outside_by_hand(lineup_after(lineup, calls), colors)]
                self.assertEqual(count_optimal(lineup, colors), len(optimal))
                for index, calls in enumerate(optimal):
                    self.assertEqual(nth_optimal(lineup, colors, index), calls)

    def test_optimal_calls_of_a_wide_lineup(self):
        for colors in ("a", "b", "e", "be"):
            for index in (0, 10 ** 6, 10 ** 30):
                calls = nth_optimal(WIDE, colors, min(index, count_optimal(WIDE, colors) - 1))
                self.assertEqual(len(calls), fewest_calls(WIDE, colors))
                self.assertIn(calls[0], improving_people(WIDE, colors))
                self.assertTrue(all(len(text) <= 2 for text in called_colors(WIDE, calls)))
                # Each call of an optimal call list takes a color.
                taken = sum(len(entries) - 1 for entries in color_history(WIDE, calls))
                self.assertEqual(taken, len(calls))


class Rounds(unittest.TestCase):
    def check(self, lineup, calls, enough):
        first, period = round_period(lineup, calls)
        self.assertIn(period, (1, 2))
        returning = lineup_after_rounds(lineup, calls, first)
        self.assertEqual(lineup_after(returning, calls * period), returning)
        for _ in range(enough):
            lineup = lineup_after(lineup, calls)
        self.assertEqual(lineup_after(lineup, calls + calls), lineup)

    def test_small_lineups(self):
        for lineup in small_lineups(3, "abc"):
            for length in (1, 2, 3):
                for calls in product(range(len(lineup)), repeat=length):
                    self.check(lineup, list(calls), 6)

    def test_a_wide_lineup(self):
        self.check(WIDE, long_calls(40, 60), 60)


if __name__ == "__main__":
    unittest.main()

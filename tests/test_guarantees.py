"""Promise 4: what holds for every lineup and every call list."""

import unittest
from itertools import product

from lastother.called import called_colors, color_arrivals, single_color_moments
from lastother.calls import color_taken, colors_taken, colors_taken_by_each, lineup_after
from tests.helpers import long_calls, small_lineups

WIDE = [((k * 11) % 40, "abcdefgh"[k * k % 8]) for k in range(40)]


def first_two_colors(others):
    """The first color of these people, and the next different one, as far as there are such."""
    return list(dict.fromkeys(color for _, color in others))[:2]


class OnlyTheOthers(unittest.TestCase):
    def check(self, lineup, person):
        others = [pair for pair in lineup if pair[0] != person]
        own = dict(lineup)[person]
        expected = ([color for color in first_two_colors(others) if color != own] + [None])[0]
        for place in range(len(lineup)):
            moved = others[:place] + [(person, own)] + others[place:]
            self.assertEqual(color_taken(moved, person), expected)
            self.assertEqual(colors_taken_by_each(moved)[person], expected)
            self.assertEqual(colors_taken(moved, [person]), [expected])

    def test_small_lineups(self):
        for lineup in small_lineups(4, "abc"):
            for person in range(len(lineup)):
                self.check(lineup, person)

    def test_a_wide_lineup(self):
        for person in range(0, 40, 7):
            self.check(WIDE, person)

    def test_where_a_call_can_be_reversed(self):
        for size, letters in ((2, "abc"), (3, "abc")):
            lineups = [lineup for lineup in small_lineups(size, letters) if len(lineup) == size]
            after_a_call = []
            for lineup in lineups:
                after_a_call.extend(lineup_after(lineup, [person]) for person in range(size))
            for lineup in lineups:
                reversible = lineup[0][1] in first_two_colors(lineup[1:])
                self.assertEqual(lineup in after_a_call, reversible, lineup)


class CalledPeople(unittest.TestCase):
    def check(self, lineup, calls):
        called = []
        before = []
        current = lineup
        for person, taken in zip(calls, colors_taken(lineup, calls)):
            if person in called and len(before) == 2:
                own = dict(current)[person]
                self.assertEqual([taken], [color for color in before if color != own])
            current = lineup_after(current, [person])
            called.append(person)
            colors = sorted({color for someone, color in current if someone in called})
            self.assertLessEqual(len(colors), 2)
            if len(before) == 2:
                self.assertLessEqual(set(colors), set(before))
            before = colors
        self.assertTrue(all(len(text) <= 2 for text in called_colors(lineup, calls)))
        alone = single_color_moments(lineup, calls)
        for k, _ in color_arrivals(lineup, calls):
            self.assertTrue(k == 1 or k - 1 in alone)

    def test_small_lineups(self):
        for lineup in small_lineups(3, "abc"):
            for calls in product(range(len(lineup)), repeat=4):
                self.check(lineup, list(calls))

    def test_a_wide_lineup(self):
        self.check(WIDE, long_calls(40, 200))


class Rounds(unittest.TestCase):
    def check(self, lineup, calls, enough):
        for _ in range(enough):
            lineup = lineup_after(lineup, calls)
        self.assertEqual(lineup_after(lineup, calls + calls), lineup)

    def test_small_lineups(self):
        for lineup in small_lineups(3, "abc"):
            for length in (1, 2, 3):
                for calls in product(range(len(lineup)), repeat=length):
                    self.check(lineup, list(calls), 6)

    def test_a_wide_lineup(self):
        self.check(WIDE, long_calls(40, 60), 60)


if __name__ == "__main__":
    unittest.main()

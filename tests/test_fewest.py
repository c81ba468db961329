"""Promises 12 and 13: the fewest calls, and the best chain."""

import unittest

from lastother.errors import InvalidColorError, InvalidColorsError, InvalidLineupError
from lastother.fewest import best_chain, fewest_calls, fewest_calls_to_one_color, fewest_calls_to_take
from tests.errorcase import ErrorCase
from tests.helpers import (
    L, LETTERS, M, N, WRONG_COLOR_SETS, WRONG_COLORS, WRONG_LINEUPS, call_by_hand, chains_by_hand, color_sets,
    colors_of, cost_by_hand, in_the_way_by_hand, mixed_lineup, outside_by_hand, steps_by_hand,
)
from tests.search import ColorSearch, Search

WITH_SET = (fewest_calls, best_chain)
ONE = [(0, "q")]
ALIKE = [(2, "e"), (0, "e"), (1, "e")]
MANY = [(k, LETTERS[25 - k]) for k in range(26)]


def lineup_of(text):
    return list(enumerate(text))


def cheapest_way(lineup, goal):
    """The smallest cost of a way from the front color to the first person with the goal color."""
    order = list(dict.fromkeys(colors_of(lineup)))
    costs = {order[0]: 0}
    for color in order[1:]:
        place = colors_of(lineup).find(color)
        costs[color] = min(
            costs[other] + len(in_the_way_by_hand(lineup, other, place)) for other in costs
        )
    return costs[goal]


def follow(lineup, steps, chain, colors):
    """The lineup after the steps, each person called as soon as it takes a color of its step, and the calls."""
    current, calls = lineup, 0
    for people, wanted in zip(steps, list(chain) + [colors]):
        waiting = list(people)
        while waiting:
            able = [person for person in waiting if (call_by_hand(current, person)[1] or "-") in wanted]
            current, _ = call_by_hand(current, able[0])
            waiting.remove(able[0])
            calls += 1
    return current, calls


class Small(unittest.TestCase):
    """Every lineup of up to four people against a search over all lineups."""

    @classmethod
    def setUpClass(cls):
        cls.searches = [Search(1, "abcd"), Search(2, "abcd"), Search(3, "abcd"), Search(4, "abcd")]

    def test_fewest_calls(self):
        for search in self.searches:
            for colors in color_sets("abcd"):
                expected = search.calls_to_colors(colors)
                for lineup in search.lineups:
                    found = fewest_calls(list(lineup), colors)
                    if found != expected.get(lineup):
                        self.fail((lineup, colors, found, expected.get(lineup)))

    def test_absent_colors(self):
        for search in self.searches[:3]:
            for lineup in search.lineups:
                for colors in ("e", "yz", "efghijklmnopqrstuvwxyz"):
                    self.assertIsNone(fewest_calls(list(lineup), colors))
                    self.assertIsNone(best_chain(list(lineup), colors))
                present = "".join(sorted(set(colors_of(lineup))))
                self.assertEqual(fewest_calls(list(lineup), present), 0)
                self.assertEqual(fewest_calls(list(lineup), LETTERS), 0)
                self.assertEqual(
                    fewest_calls(list(lineup), present[:1] + "xyz"), fewest_calls(list(lineup), present[:1])
                )

    def test_to_one_color(self):
        for search in self.searches:
            expected = search.calls_to_one_color()
            for lineup in search.lineups:
                self.assertEqual(fewest_calls_to_one_color(list(lineup)), expected[lineup], lineup)

    def test_to_take(self):
        for search in self.searches:
            for color in "abcd":
                expected = search.calls_to_take(color)
                for lineup in search.lineups:
                    self.assertEqual(fewest_calls_to_take(list(lineup), color), expected.get(lineup), (lineup, color))

    def test_best_chain(self):
        for search in self.searches[:3]:
            for lineup in search.lineups:
                for colors in color_sets("abcd"):
                    chains = chains_by_hand(lineup, colors)
                    ranked = sorted((cost_by_hand(lineup, colors, chain), chain) for chain in chains)
                    expected = ranked[0][1] if ranked else None
                    self.assertEqual(best_chain(list(lineup), colors), expected, (lineup, colors))


class Fewest(unittest.TestCase):
    def test_examples(self):
        self.assertEqual(fewest_calls(L, "c"), 4)
        self.assertEqual(fewest_calls(L, "bc"), 2)
        self.assertEqual(fewest_calls_to_one_color(L), 2)
        self.assertEqual(fewest_calls_to_take(L, "c"), 2)

    def test_everybody_has_a_color_of_the_set(self):
        for lineup in (ONE, ALIKE, L, M, N, MANY):
            present = "".join(sorted(set(colors_of(lineup))))
            self.assertEqual(fewest_calls(lineup, present), 0)
            self.assertEqual(fewest_calls(lineup, LETTERS), 0)

    def test_nobody_has_a_color_of_the_set(self):
        self.assertIsNone(fewest_calls(L, "d"))
        self.assertIsNone(fewest_calls(L, "defghijklmnopqrstuvwxyz"))
        self.assertIsNone(fewest_calls(ONE, "p"))
        self.assertIsNone(fewest_calls(ALIKE, "abcd"))

    def test_the_front_color(self):
        self.assertEqual(fewest_calls(L, "a"), 2)
        self.assertEqual(fewest_calls(M, "a"), 2)
        self.assertEqual(fewest_calls(MANY, "z"), 25)

    def test_several_colors(self):
        self.assertEqual(fewest_calls(L, "ab"), 1)
        self.assertEqual(fewest_calls(L, "ac"), 1)
        self.assertEqual(fewest_calls(L, "bd"), 3)

    def test_one_color_left(self):
        self.assertEqual(fewest_calls_to_one_color(ONE), 0)
        self.assertEqual(fewest_calls_to_one_color(ALIKE), 0)
        self.assertEqual(fewest_calls_to_one_color(M), 2)
        self.assertEqual(fewest_calls_to_one_color(lineup_of("abbbb")), 1)
        self.assertEqual(fewest_calls_to_one_color(lineup_of("abccccc")), 3)
        self.assertEqual(fewest_calls_to_one_color(MANY), 25)

    def test_taking_a_color(self):
        self.assertEqual(fewest_calls_to_take(L, "a"), 1)
        self.assertEqual(fewest_calls_to_take(L, "b"), 1)
        self.assertEqual(fewest_calls_to_take(N, "a"), 1)
        self.assertEqual(fewest_calls_to_take(N, "b"), 1)
        self.assertEqual(fewest_calls_to_take(MANY, "z"), 1)
        self.assertEqual(fewest_calls_to_take(lineup_of("aaab"), "b"), 1)
        self.assertEqual(fewest_calls_to_take(lineup_of("abbc"), "c"), 2)
        self.assertEqual(fewest_calls_to_take(lineup_of("ababc"), "c"), 3)
        self.assertEqual(fewest_calls_to_take(lineup_of("abcd"), "d"), 3)

    def test_taking_a_color_that_nobody_has(self):
        for lineup in (ONE, ALIKE, L, M, N):
            self.assertIsNone(fewest_calls_to_take(lineup, "z"))

    def test_taking_a_color_that_everybody_has(self):
        self.assertIsNone(fewest_calls_to_take(ONE, "q"))
        self.assertIsNone(fewest_calls_to_take(ALIKE, "e"))
        self.assertIsNone(fewest_calls_to_take(lineup_of("x" * 60), "x"))

    def test_five_people_with_five_colors(self):
        search = ColorSearch(5, "abcde")
        for colors in ("a", "e", "bd", "ace"):
            expected = search.calls_to_colors(colors)
            for lineup in search.lineups:
                self.assertEqual(fewest_calls(list(lineup), colors), expected.get(lineup), (lineup, colors))
        alone, taken = search.calls_to_one_color(), search.calls_to_take("c")
        for lineup in search.lineups:
            self.assertEqual(fewest_calls_to_one_color(list(lineup)), alone[lineup], lineup)
            self.assertEqual(fewest_calls_to_take(list(lineup), "c"), taken.get(lineup), lineup)

    def test_sixty_people(self):
        lineups = [mixed_lineup(60, LETTERS[:size], size) for size in range(1, 27)]
        lineups.append([(59 - k, LETTERS[k % 26]) for k in range(60)])
        lineups.append([(k, LETTERS[k * 26 // 60]) for k in range(60)])
        lineups.append([(k, LETTERS[25 - k * 26 // 60]) for k in range(60)])
        for lineup in lineups:
            order = list(dict.fromkeys(colors_of(lineup)))
            for color in order:
                way = cheapest_way(lineup, color)
                self.assertEqual(fewest_calls(lineup, color), way + len(outside_by_hand(lineup, color)))
                taken = None if len(order) == 1 else way + 1
                self.assertEqual(fewest_calls_to_take(lineup, color), taken)
            for size in range(2, len(order)):
                colors = "".join(sorted(order[-size:]))
                way = cheapest_way(lineup, order[-size])
                self.assertEqual(fewest_calls(lineup, colors), way + len(outside_by_hand(lineup, colors)))
            self.assertEqual(
                fewest_calls_to_one_color(lineup), min(fewest_calls(lineup, color) for color in order)
            )
            absent = "".join(letter for letter in LETTERS if letter not in order)
            if absent:
                self.assertIsNone(fewest_calls(lineup, absent))
                self.assertIsNone(fewest_calls_to_take(lineup, absent[-1]))

    def test_sixty_people_can_do_with_so_many_calls(self):
        for number, size in enumerate((2, 5, 13, 26)):
            lineup = mixed_lineup(60, LETTERS[:size], 300 + number)
            for color in colors_of(lineup)[-3:]:
                chain = best_chain(lineup, color)
                after, calls = follow(lineup, steps_by_hand(lineup, color, chain), chain, color)
                self.assertEqual(set(colors_of(after)), {color})
                self.assertEqual(fewest_calls(lineup, color), calls)

    def test_kinds_of_the_results(self):
        for lineup in (ONE, ALIKE, L):
            self.assertIs(type(fewest_calls_to_one_color(lineup)), int)
            self.assertIs(type(fewest_calls(lineup, colors_of(lineup)[0])), int)
        self.assertIs(type(fewest_calls_to_take(L, "a")), int)


class BestChain(unittest.TestCase):
    def check(self, lineup, colors):
        """Compare with all chains; return how many of them have the smallest cost."""
        chains = chains_by_hand(lineup, colors)
        found = best_chain(lineup, colors)
        if not chains:
            self.assertIsNone(found)
            return 0
        costs = [cost_by_hand(lineup, colors, chain) for chain in chains]
        cheapest = [chain for chain, cost in zip(chains, costs) if cost == min(costs)]
        self.assertEqual(found, min(cheapest))
        self.assertEqual(fewest_calls(lineup, colors), min(costs))
        return len(cheapest)

    def test_example(self):
        self.assertEqual(best_chain(L, "c"), ["a"])

    def test_the_front_color_is_in_the_set(self):
        for lineup in (ONE, ALIKE, L, M, N, MANY):
            self.assertEqual(best_chain(lineup, colors_of(lineup)[0]), [])
            self.assertEqual(best_chain(lineup, LETTERS), [])

    def test_there_is_no_chain(self):
        for lineup in (ONE, ALIKE, L, M, N):
            self.assertIsNone(best_chain(lineup, "z"))
            self.assertIsNone(best_chain(lineup, "vwxyz"))

    def test_only_the_first_person_with_a_color_of_the_set_counts(self):
        self.assertEqual(best_chain(L, "bc"), ["a"])
        self.assertEqual(best_chain(L, "cd"), ["a"])

    def test_a_way_over_another_color(self):
        self.assertEqual(best_chain(lineup_of("abbbc"), "c"), ["a", "b"])
        self.assertEqual(best_chain(lineup_of("abccccccd"), "d"), ["a", "b", "c"])
        self.assertEqual(best_chain(lineup_of("abaccccccd"), "d"), ["a", "c"])
        self.assertEqual(best_chain(lineup_of("cbbba"), "a"), ["c", "b"])

    def test_equal_costs_the_shorter_one_is_smaller(self):
        # Over b it costs 0 + 1, straight on it costs 1.
        self.assertEqual(best_chain(lineup_of("abc"), "c"), ["a"])

    def test_equal_costs_the_smaller_color_counts_before_the_length(self):
        # Of the ways to c the one over a alone is shorter and smaller, and both cost 1. But of
        # the whole chains the longer one is smaller.
        lineup = lineup_of("abcccd")
        self.assertEqual(cost_by_hand(lineup, "d", ["a", "b", "c"]), cost_by_hand(lineup, "d", ["a", "c"]))
        self.assertEqual(best_chain(lineup, "d"), ["a", "b", "c"])
        self.assertEqual(best_chain(lineup_of("acbbbd"), "d"), ["a", "b"])

    def test_all_lineups_of_six_people_with_one_goal(self):
        several = 0
        for number in range(3 ** 5):
            text = "a" + "".join("abc"[number // 3 ** k % 3] for k in range(5)) + "d"
            several += self.check(lineup_of(text), "d") > 1
        self.assertGreater(several, 20)

    def test_lineups_with_up_to_eight_colors(self):
        several = 0
        for number in range(400):
            size = 2 + number % 7
            lineup = mixed_lineup(8 + number % 9, "abcdefgh"[:size], number)
            order = list(dict.fromkeys(colors_of(lineup)))
            several += self.check(lineup, order[-1]) > 1
            self.check(lineup, order[0])
            self.check(lineup, "".join(sorted(order[-2:])))
            self.check(lineup, "".join(sorted(order[1::2])) or "h")
        self.assertGreater(several, 40)

    def test_eight_colors_once_each(self):
        for order in ("abcdefgh", "hgfedcba", "dbfhaceg", "ahbgcfde"):
            for size in range(1, 8):
                self.check(lineup_of(order), "".join(sorted(order[-size:])))

    def test_sixty_people(self):
        for size in (1, 2, 8, 26):
            lineup = mixed_lineup(60, LETTERS[:size], 700 + size)
            for color in sorted(set(colors_of(lineup))):
                chain = best_chain(lineup, color)
                self.assertEqual(cost_by_hand(lineup, color, chain), fewest_calls(lineup, color))

    def test_kinds_of_the_results(self):
        chain = best_chain(lineup_of("abbbc"), "c")
        self.assertIs(type(chain), list)
        self.assertEqual([type(color) for color in chain], [str, str])
        self.assertIs(type(best_chain(L, "a")), list)


class Errors(ErrorCase):
    def test_no_lineup(self):
        for at, value in enumerate(WRONG_LINEUPS):
            with self.subTest(at):
                self.assert_raises(InvalidLineupError, fewest_calls, value, "a")
                self.assert_raises(InvalidLineupError, best_chain, value, "a")
                self.assert_raises(InvalidLineupError, fewest_calls_to_take, value, "a")
                self.assert_raises(InvalidLineupError, fewest_calls_to_one_color, value)

    def test_no_color_set(self):
        for function in WITH_SET:
            for at, value in enumerate(WRONG_COLOR_SETS):
                for lineup in (ONE, L, MANY):
                    with self.subTest(function=function.__name__, at=at):
                        self.assert_raises(InvalidColorsError, function, lineup, value)

    def test_no_color(self):
        for at, value in enumerate(WRONG_COLORS):
            for lineup in (ONE, L):
                with self.subTest(at):
                    self.assert_raises(InvalidColorError, fewest_calls_to_take, lineup, value)

    def test_the_lineup_is_looked_at_first(self):
        for lineup in ([], None, [(1, "a")], ((0, "a"),), [(0, "a"), (1, "B")]):
            for wrong in WRONG_COLOR_SETS:
                for function in WITH_SET:
                    self.assert_raises(InvalidLineupError, function, lineup, wrong)
            for wrong in WRONG_COLORS:
                self.assert_raises(InvalidLineupError, fewest_calls_to_take, lineup, wrong)


if __name__ == "__main__":
    unittest.main()

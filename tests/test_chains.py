"""Promise 14: chains, their costs, and the calls that follow them."""

import unittest
from itertools import permutations, product

from lastother.calls import lineup_after
from lastother.certificates import calls_for_chain, chain_cost, is_chain
from lastother.errors import InvalidChainError, InvalidColorsError, InvalidLineupError
from lastother.fewest import best_chain, fewest_calls
from tests.errorcase import ErrorCase
from tests.helpers import (
    L, LETTERS, M, N, WRONG_COLOR_SETS, WRONG_LINEUPS, ListKind, TextKind, Touchy, call_by_hand, chains_by_hand,
    circle, color_sets, colors_of, cost_by_hand, is_chain_by_hand, mixed_lineup, small_lineups, steps_by_hand,
)

FUNCTIONS = (is_chain, chain_cost, calls_for_chain)
ONE = [(0, "q")]
ALIKE = [(2, "e"), (0, "e"), (1, "e")]
MANY = [(k, LETTERS[25 - k]) for k in range(26)]
# The colors b, d, a, c, e in this order, some of them again behind the first person with e.
FIVE = [(4, "b"), (7, "b"), (0, "d"), (8, "b"), (2, "a"), (5, "d"), (3, "c"), (1, "e"), (6, "a"), (9, "b")]

NO_CHAINS = [
    "a", "", "ab", b"a", ("a",), (), None, True, False, 0, 1, {"a": 0}, {}, {"a"}, ListKind(["a"]), ListKind(),
    object(), Touchy(), circle(), range(0), [None], [0], [True], [""], ["ab"], ["A"], [b"a"], [["a"]], [("a",)],
    [TextKind("a")], [Touchy()], ["a", Touchy()], ["a", None], ["a", 1], [{"a": 0}], ["\u00e9"], ["a", ["b"]],
]


def calls_by_hand(lineup, colors, chain):
    """The calls that follow a chain, person by person as section 8 says."""
    current, calls = list(lineup), []
    for people, wanted in zip(steps_by_hand(lineup, colors, chain), list(chain) + [colors]):
        called = []
        while len(called) < len(people):
            for person in sorted(people):
                after, taken = call_by_hand(current, person)
                if person not in called and taken is not None and taken in wanted:
                    break
            current = after
            called.append(person)
        calls.extend(called)
    return calls


class IsChain(unittest.TestCase):
    def test_example(self):
        self.assertIs(is_chain(L, "c", ["a", "b"]), True)

    def test_chains(self):
        for chain in (["b"], ["b", "d"], ["b", "a"], ["b", "c"], ["b", "d", "a"], ["b", "d", "a", "c"], ["b", "a", "c"]):
            self.assertIs(is_chain(FIVE, "e", chain), True)
        for chain in (["b"], ["b", "d"]):
            self.assertIs(is_chain(FIVE, "ace", chain), True)
        self.assertIs(is_chain(MANY, "a", list(LETTERS[:0:-1])), True)

    def test_almost_chains(self):
        wrong = [
            # added
            ["b", "d", "a", "c", "e"], ["b", "d", "a", "c", "f"], ["z", "b", "d"], ["b", "z", "d"],
            # removed
            ["d", "a", "c"], ["a"], [],
            # repeated
            ["b", "b"], ["b", "d", "d"], ["b", "d", "a", "c", "c"], ["b", "d", "a", "b"], ["b", "b", "d", "a", "c"],
            # replaced
            ["d"], ["e", "d", "a", "c"], ["b", "e", "a", "c"], ["b", "d", "a", "e"], ["b", "d", "x", "c"],
            # reversed, and in another order
            ["c", "a", "d", "b"], ["b", "a", "d", "c"], ["b", "d", "c", "a"], ["d", "b"], ["b", "c", "a"],
            # of other kinds
            ["b", 3], ["b", None], [True, "d"], ["b", TextKind("d")], ["b", b"d"], ["bd"], [["b"], ["d"]],
        ]
        for chain in wrong:
            with self.subTest(chain=chain):
                self.assertIs(is_chain(FIVE, "e", chain), False)

    def test_colors_of_the_set_and_behind_it(self):
        self.assertIs(is_chain(FIVE, "ce", ["b", "d", "a", "c"]), False)
        self.assertIs(is_chain(FIVE, "ad", ["b", "a"]), False)
        self.assertIs(is_chain(FIVE, "a", ["b", "c"]), False)
        self.assertIs(is_chain(FIVE, "a", ["b", "d", "c"]), False)
        self.assertIs(is_chain(FIVE, "az", ["b", "d"]), True)

    def test_other_containers(self):
        for value in (("a", "b"), ("a",), "ab", "a", {"a": 0, "b": 1}, {"a"}, ListKind(["a", "b"]), ListKind(["a"])):
            self.assertIs(is_chain(L, "c", value), False)

    def test_any_value_is_accepted(self):
        for lineup, colors in ((L, "c"), (L, "bc"), (L, "a"), (L, "z"), (ONE, "q"), (ONE, "a"), (ALIKE, "ae")):
            for at, value in enumerate(NO_CHAINS):
                with self.subTest(colors=colors, at=at):
                    self.assertIs(is_chain(lineup, colors, value), False)

    def test_the_empty_list_is_a_chain_exactly_if_the_front_color_is_in_the_set(self):
        for lineup in (ONE, ALIKE, L, M, N, FIVE):
            for colors in list(color_sets("abcde")) + ["q", "aq", "z"]:
                inside = lineup[0][1] in colors
                self.assertIs(is_chain(lineup, colors, []), inside)
                self.assertIs(is_chain(lineup, colors, [lineup[0][1]]) and inside, False)

    def test_nothing_is_a_chain_if_nobody_has_a_color_of_the_set(self):
        for colors in ("d", "dz", "defghijklmnopqrstuvwxyz"):
            for chain in ([], ["a"], ["a", "b"], ["a", "b", "c"], ["b"], ["d"], None, ("a",)):
                self.assertIs(is_chain(L, colors, chain), False)

    def test_every_list_of_letters_for_small_lineups(self):
        lists = [list(letters) for size in range(4) for letters in product("abcd", repeat=size)]
        for lineup in small_lineups(3, "abc"):
            for colors in ("a", "b", "c", "bc", "d"):
                for chain in lists:
                    expected = is_chain_by_hand(lineup, colors, chain)
                    if is_chain(lineup, colors, chain) is not expected:
                        self.fail((lineup, colors, chain))

    def test_every_order_of_some_letters(self):
        for text in ("abcd", "dacb", "bbadacd", "ddcabbc"):
            lineup = list(enumerate(text))
            for colors in color_sets("abcd"):
                for size in range(5):
                    for chain in permutations("abcd", size):
                        expected = is_chain_by_hand(lineup, colors, list(chain))
                        self.assertIs(is_chain(lineup, colors, list(chain)), expected)

    def test_a_list_too_long_to_be_a_chain(self):
        self.assertIs(is_chain(L, "c", ["a", "b"] * 100), False)
        self.assertIs(is_chain(L, "c", ["a"] * 200), False)


class Cost(unittest.TestCase):
    def test_example(self):
        self.assertEqual(chain_cost(L, "c", ["a", "b"]), 4)
        self.assertEqual(chain_cost(L, "c", ["a"]), 4)

    def test_step_by_step(self):
        # Without color b in front of the first d: 0; without d in front of the first e: 5; without e: 9.
        self.assertEqual(chain_cost(FIVE, "e", ["b", "d"]), 0 + 5 + 9)
        # Without b in front of the first e: 4.
        self.assertEqual(chain_cost(FIVE, "e", ["b"]), 4 + 9)
        self.assertEqual(chain_cost(FIVE, "ae", ["b"]), 1 + 7)

    def test_the_empty_chain_costs_the_people_outside(self):
        self.assertEqual(chain_cost(L, "a", []), 2)
        self.assertEqual(chain_cost(L, "ac", []), 1)
        self.assertEqual(chain_cost(L, "abc", []), 0)
        self.assertEqual(chain_cost(ALIKE, "e", []), 0)

    def test_against_the_sum_of_the_definition(self):
        for lineup in small_lineups(4, "abcd"):
            if lineup[0][0] == 0:
                for colors in ("d", "cd", "b", "a"):
                    for chain in chains_by_hand(lineup, colors):
                        self.assertEqual(chain_cost(lineup, colors, chain), cost_by_hand(lineup, colors, chain))
        for number in range(30):
            lineup = mixed_lineup(20, "abcdefgh", number)
            for colors in (lineup[-1][1], lineup[7][1], "".join(sorted({lineup[0][1], lineup[9][1]}))):
                for chain in chains_by_hand(lineup, colors):
                    self.assertEqual(chain_cost(lineup, colors, chain), cost_by_hand(lineup, colors, chain))

    def test_the_best_chain_costs_the_fewest_calls(self):
        for number in range(20):
            lineup = mixed_lineup(60, LETTERS, number)
            for color in sorted(set(colors_of(lineup))):
                chain = best_chain(lineup, color)
                self.assertEqual(chain_cost(lineup, color, chain), fewest_calls(lineup, color))

    def test_kind_of_the_result(self):
        self.assertIs(type(chain_cost(L, "c", ["a"])), int)
        self.assertIs(type(chain_cost(ONE, "q", [])), int)


class Calls(unittest.TestCase):
    def check(self, lineup, colors, chain):
        calls = calls_for_chain(lineup, colors, chain)
        self.assertEqual(calls, calls_by_hand(lineup, colors, chain))
        self.assertEqual(len(calls), chain_cost(lineup, colors, chain))
        current = lineup
        for person in calls:
            current, taken = call_by_hand(current, person)
            self.assertIsNotNone(taken)
        self.assertLessEqual(set(colors_of(current)), set(colors))
        return calls

    def test_example(self):
        self.assertEqual(calls_for_chain(L, "c", ["a", "b"]), [0, 0, 1, 3])

    def test_the_other_chain(self):
        # Step a: only person 1 stands in the way. Last step: 0, 1 and 3 take c.
        self.assertEqual(calls_for_chain(L, "c", ["a"]), [1, 0, 1, 3])

    def test_the_empty_chain(self):
        self.assertEqual(calls_for_chain(L, "a", []), [1, 2])
        self.assertEqual(calls_for_chain(L, "abc", []), [])
        self.assertEqual(calls_for_chain(ONE, "q", []), [])
        self.assertEqual(calls_for_chain(ALIKE, "ce", []), [])
        self.assertEqual(calls_for_chain([(2, "a"), (1, "b"), (0, "c")], "a", []), [0, 1])

    def test_a_smaller_person_waits_until_its_call_takes_the_color(self):
        # In the second step 0 and 1 would take a until 3, with b, stands in front.
        lineup = [(3, "a"), (4, "b"), (0, "c"), (1, "d"), (2, "e")]
        self.assertEqual(self.check(lineup, "e", ["a", "b"]), [3, 0, 1, 0, 1, 3, 4])

    def test_a_person_may_be_called_in_several_steps(self):
        calls = self.check(MANY[:5], "v", ["z", "y", "x", "w"])
        self.assertEqual(calls.count(0), 4)

    def test_small_lineups(self):
        for lineup in small_lineups(4, "abcd"):
            for colors in ("d", "cd", "b", "a", "bcd"):
                for chain in chains_by_hand(lineup, colors):
                    self.check(lineup, colors, chain)

    def test_lineups_with_up_to_eight_colors(self):
        for number in range(25):
            lineup = mixed_lineup(14, "abcdefgh"[:2 + number % 7], number)
            for colors in (lineup[-1][1], "".join(sorted({lineup[6][1], lineup[9][1]}))):
                for chain in chains_by_hand(lineup, colors):
                    self.check(lineup, colors, chain)

    def test_more_than_two_hundred_calls(self):
        lineup = [(59 - k, LETTERS[min(k, 25)]) for k in range(60)]
        chain = list(LETTERS[:25])
        calls = self.check(lineup, "z", chain)
        self.assertGreater(len(calls), 200)
        self.assertEqual(set(colors_of(lineup_after(lineup, calls))), {"z"})
        mixed = mixed_lineup(60, LETTERS, 3)
        order = list(dict.fromkeys(colors_of(mixed)))
        self.assertGreater(len(self.check(mixed, order[-1], order[:-1])), 200)

    def test_kinds_of_the_results(self):
        calls = calls_for_chain(L, "c", ["a", "b"])
        self.assertIs(type(calls), list)
        self.assertTrue(all(type(person) is int for person in calls))


class Errors(ErrorCase):
    def test_no_lineup(self):
        for function in FUNCTIONS:
            for at, value in enumerate(WRONG_LINEUPS):
                with self.subTest(function=function.__name__, at=at):
                    self.assert_raises(InvalidLineupError, function, value, "a", [])

    def test_no_color_set(self):
        for function in FUNCTIONS:
            for at, value in enumerate(WRONG_COLOR_SETS):
                with self.subTest(function=function.__name__, at=at):
                    self.assert_raises(InvalidColorsError, function, L, value, [])
                    self.assert_raises(InvalidColorsError, function, L, value, ["a"])

    def test_no_chain(self):
        wrong = NO_CHAINS + [
            [], ["b"], ["c"], ["a", "c"], ["b", "a"], ["a", "b", "c"], ["a", "a"], ["a", "d"], ("a", "b"), ["a", "b", "b"],
        ]
        for function in (chain_cost, calls_for_chain):
            for at, value in enumerate(wrong):
                with self.subTest(function=function.__name__, at=at):
                    self.assert_raises(InvalidChainError, function, L, "c", value)
            for chain in (["a"], ["b"], (), None):
                self.assert_raises(InvalidChainError, function, L, "a", chain)
            for chain in ([], ["a"], ["a", "b"], ["a", "b", "c"]):
                self.assert_raises(InvalidChainError, function, L, "d", chain)

    def test_the_lineup_is_looked_at_first_then_the_color_set(self):
        for function in FUNCTIONS:
            for lineup in ([], None, [(1, "a")], ((0, "a"),), [(0, "a"), (1, "B")]):
                for colors in ("a", "", None, ["a"], "ba"):
                    for chain in ([], ["a"], None, ("a",)):
                        self.assert_raises(InvalidLineupError, function, lineup, colors, chain)
            for colors in ("", None, ["a"], "ba", "aa", "A"):
                for chain in NO_CHAINS:
                    self.assert_raises(InvalidColorsError, function, L, colors, chain)


if __name__ == "__main__":
    unittest.main()

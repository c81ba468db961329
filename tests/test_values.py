"""Promise 2: arguments stay as they are, results are new, arguments by position or by name."""

import copy
import unittest

from lastother.calls import lineup_after, shorten_calls
from lastother.certificates import bound_value, calls_for_chain, chain_cost, greatest_bound, is_bound, is_chain
from lastother.fewest import best_chain, fewest_calls
from lastother.history import changed_without, color_history, redundant_calls
from lastother.inverse import lineup_before, possible_old_colors
from lastother.lineups import is_lineup
from lastother.optimal import count_optimal, is_optimal, nth_optimal
from lastother.rounds import lineup_after_rounds, rounds_until_one_color
from lastother.session import Session
from lastother.small import shortest_calls_between
from lastother.text import calls_from_text, calls_to_text, lineup_from_text, lineup_to_text
from tests.cases import CASES, FAILURES
from tests.errorcase import ErrorCase
from tests.helpers import L, LETTERS
from tests.test_interface import FUNCTIONS


def refill(value, content):
    """Give a list or a dict other content, in place."""
    value.clear()
    if type(value) is dict:
        value.update(content)
    else:
        value.extend(content)


def parts(result):
    """The lists and dicts of a result that can be changed, down to those within it."""
    found = [result] if type(result) in (list, dict) else []
    if type(result) in (list, tuple):
        for item in result:
            found.extend(parts(item))
    return found


def spoil(part):
    """Change a returned list or dict wherever it can be changed."""
    if type(part) is dict:
        for key in part:
            part[key] = "other"
        part["more"] = "more"
    else:
        part.append("more")
        part[0] = "other"


class Values(ErrorCase):
    def test_every_function_of_the_interface_is_there(self):
        names = [name for functions in FUNCTIONS.values() for name in functions]
        self.assertEqual(sorted({case[0].__name__ for case in CASES}), sorted(names))
        names.remove("is_lineup")
        self.assertEqual(sorted({case[0].__name__ for case in FAILURES}), sorted(names))

    def test_by_name_and_by_position(self):
        for function, named, result, _, _, _ in CASES:
            with self.subTest(function.__name__):
                self.assertEqual(function(**named), result)
                self.assertEqual(function(*named.values()), result)
                self.assertIs(type(function(**named)), type(result))

    def test_arguments_are_unchanged(self):
        for function, named, _, _, _, _ in CASES:
            given = copy.deepcopy(named)
            with self.subTest(function.__name__):
                function(**given)
                self.assertEqual(given, named)
                for name, value in named.items():
                    if type(value) is dict:
                        self.assertEqual(list(given[name]), list(value))

    def test_arguments_are_unchanged_by_a_failure(self):
        for function, named, error in FAILURES:
            given = copy.deepcopy(named)
            with self.subTest(function.__name__):
                with self.assertRaises(error) as caught:
                    function(**given)
                self.assertIs(type(caught.exception), error)
                self.assertEqual(given, named)
                self.assert_raises(error, function, *given.values())
                self.assertEqual(given, named)

    def test_a_failure_changes_nothing_later(self):
        for function, named, error in FAILURES:
            with self.assertRaises(error):
                function(**copy.deepcopy(named))
        for function, named, result, _, _, _ in CASES:
            with self.subTest(function.__name__):
                self.assertEqual(function(**copy.deepcopy(named)), result)

    def test_questions_leave_other_values_as_they_are(self):
        for value in ([(0, "a"), (1, "B")], [[0, "a"]], {"a": [1]}, (1, 2), [(0, ["a"])], ["b", "a"], {"c": 0, "a": 9}):
            given = copy.deepcopy(value)
            self.assertIs(is_lineup(given), False)
            self.assertIs(is_chain(L, "c", given), False)
            self.assertIs(is_bound(L, given), False)
            self.assertIs(is_optimal(L, "c", given), False)
            self.assertEqual(given, value)

    def test_the_same_argument_changed_in_place(self):
        for function, named, result, name, changed, then in CASES:
            if name is None:
                continue
            given = copy.deepcopy(named)
            with self.subTest(function.__name__):
                first = function(**given)
                self.assertEqual(first, result)
                refill(given[name], changed)
                self.assertEqual(first, result)
                self.assertEqual(function(**given), then)
                refill(given[name], named[name])
                self.assertEqual(function(**given), result)

    def test_a_returned_list_or_dict_that_is_changed(self):
        for function, named, result, _, _, _ in CASES:
            given = copy.deepcopy(named)
            with self.subTest(function.__name__):
                first, second = parts(function(**given)), parts(function(**given))
                known = second + list(given.values())
                for at, part in enumerate(first):
                    for other in known + first[:at]:
                        self.assertIsNot(part, other)
                    spoil(part)
                self.assertEqual(second, parts(result))
                self.assertEqual(given, named)
                self.assertEqual(function(**given), result)

    def test_a_result_may_be_passed_back(self):
        once = lineup_after(L, [1, 0])
        self.assertTrue(is_lineup(once))
        self.assertEqual(lineup_after(once, [3]), lineup_after(L, [1, 0, 3]))
        self.assertEqual(shorten_calls(shorten_calls([0, 0, 0, 1, 1])), [0, 1, 1])
        chain = best_chain(once, "c")
        self.assertTrue(is_chain(once, "c", chain))
        self.assertEqual(len(calls_for_chain(once, "c", chain)), chain_cost(once, "c", chain))
        after = lineup_after(once, calls_for_chain(once, "c", chain))
        self.assertEqual(fewest_calls(after, "c"), 0)
        self.assertEqual(bound_value(once, "c", greatest_bound(once)), fewest_calls(once, "c"))
        calls = nth_optimal(once, "c", count_optimal(once, "c") - 1)
        self.assertTrue(is_optimal(once, "c", calls))
        self.assertEqual(changed_without(once, calls, len(calls)), [calls[-1]])
        self.assertTrue(is_lineup(lineup_after_rounds(once, calls, 10 ** 30)))
        before = lineup_before(once, 3, possible_old_colors(once)[0])
        self.assertEqual(lineup_after(before, [once[0][0]]), once)
        self.assertEqual(lineup_after(before, shortest_calls_between(before, once)), once)
        self.assertEqual(lineup_from_text(lineup_to_text(once)), once)
        self.assertEqual(calls_from_text(calls_to_text(calls)), calls)

    def test_a_result_of_any_size_may_be_passed_back(self):
        lineup = [(59 - k, LETTERS[min(k, 25)]) for k in range(60)]
        calls = calls_for_chain(lineup, "z", list(LETTERS[:25]))
        self.assertGreater(len(calls), 200)
        self.assertEqual(fewest_calls(lineup_after(lineup, calls), "z"), 0)
        self.assertEqual(sum(len(entries) for entries in color_history(lineup, calls)), 60 + len(calls))
        self.assertIs(is_optimal(lineup, "z", calls), len(calls) == fewest_calls(lineup, "z"))
        self.assertEqual(changed_without(lineup, calls, len(calls)), [calls[-1]])
        self.assertEqual(redundant_calls(lineup, calls[:20]), [])
        self.assertEqual(rounds_until_one_color(lineup, calls), 1)
        self.assertEqual(calls_from_text(calls_to_text(calls)), calls)
        session = Session(lineup)
        for person in calls:
            session.call(person)
        self.assertEqual(session.current_lineup(), lineup_after(lineup, calls))
        self.assertEqual(lineup_after(lineup, session.done_calls()), session.current_lineup())
        self.assertEqual(session.effective_count(), len(calls))


if __name__ == "__main__":
    unittest.main()

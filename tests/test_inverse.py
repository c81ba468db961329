"""Promises 22 and 23: the lineups before a call, and how many lineups can follow one."""

import unittest
from itertools import product
from math import factorial

from lastother.errors import InvalidColorError, InvalidLineupError, InvalidNumberError, InvalidPositionError
from lastother.inverse import (
    can_follow_call, count_lineups, count_lineups_after_call, lineup_before, possible_old_colors,
)
from lastother.lineups import is_lineup
from tests.errorcase import ErrorCase
from tests.helpers import (
    L, LETTERS, M, N, WRONG_COLORS, WRONG_INTEGERS, WRONG_LINEUPS, call_by_hand, mixed_lineup, small_lineups,
)
from tests.search import Search

ONE = [(0, "q")]
ALIKE = [(2, "e"), (0, "e"), (1, "e")]
MANY = [(k, LETTERS[25 - k]) for k in range(26)]
EXAMPLE = [(0, "b"), (1, "a"), (2, "b")]
STUCK = [(0, "c"), (1, "a"), (2, "b")]


def befores_by_hand(lineup):
    """A dict from (position, color) to the lineup that becomes this one by a call of the front person."""
    person, others = lineup[0][0], lineup[1:]
    befores = {}
    for position in range(len(lineup)):
        for color in LETTERS:
            before = others[:position] + [(person, color)] + others[position:]
            if call_by_hand(before, person)[0] == lineup:
                befores[(position, color)] = before
    return befores


class Reversed(unittest.TestCase):
    def check(self, lineup):
        befores = befores_by_hand(lineup)
        colors = "".join(sorted({color for _, color in befores}))
        if possible_old_colors(lineup) != colors:
            self.fail((lineup, possible_old_colors(lineup), colors))
        self.assertIs(can_follow_call(lineup), colors != "")
        for position in range(len(lineup)):
            for color in colors:
                before = lineup_before(lineup, position, color)
                if before != befores[(position, color)]:
                    self.fail((lineup, position, color, before))
        return colors

    def test_examples(self):
        self.assertIs(can_follow_call(STUCK), False)
        self.assertEqual(possible_old_colors(EXAMPLE), "a")
        self.assertEqual(lineup_before(EXAMPLE, 1, "a"), [(1, "a"), (0, "a"), (2, "b")])

    def test_against_all_lineups_before(self):
        for size, letters in ((1, "abcd"), (2, "abcd"), (3, "abcd"), (4, "abcd")):
            search = Search(size, letters)
            for lineup in search.lineups:
                befores = sorted(set(search.befores[lineup]))
                colors = [color for color in possible_old_colors(list(lineup)) if color in letters]
                found = [
                    tuple(lineup_before(list(lineup), position, color)) for position in range(size) for color in colors
                ]
                if sorted(found) != befores:
                    self.fail((lineup, found, befores))
                self.assertIs(can_follow_call(list(lineup)), befores != [])

    def test_small_lineups_with_all_letters_before(self):
        for lineup in small_lineups(3, "abcd"):
            self.check(lineup)
        for colors in product("abcz", repeat=4):
            self.check(list(zip((2, 0, 3, 1), colors)))

    def test_one_person(self):
        self.assertIs(can_follow_call(ONE), True)
        self.assertEqual(self.check(ONE), "q")
        self.assertEqual(lineup_before(ONE, 0, "q"), ONE)

    def test_one_color(self):
        # Any other color changes to the one that the others have, and this color stays.
        self.assertEqual(self.check(ALIKE), LETTERS)
        self.assertEqual(self.check([(1, "a"), (0, "a")]), LETTERS)
        self.assertEqual(lineup_before(ALIKE, 2, "z"), [(0, "e"), (1, "e"), (2, "z")])

    def test_two_colors(self):
        self.assertEqual(self.check(N), "")
        self.assertEqual(self.check([(0, "a"), (1, "b"), (2, "b")]), "")
        self.assertEqual(self.check([(0, "b"), (1, "a"), (2, "a"), (3, "b")]), "a")
        self.assertEqual(self.check([(0, "a"), (1, "a"), (2, "b")]), LETTERS[1:])
        self.assertEqual(self.check([(0, "z"), (1, "z"), (2, "b")]), LETTERS[:25])

    def test_many_colors(self):
        self.assertEqual(self.check(MANY), "")
        self.assertEqual(self.check([(0, "y")] + MANY[1:]), LETTERS[:24] + "z")
        self.assertEqual(self.check([(0, "x")] + MANY[1:]), "y")
        self.assertEqual(self.check([(0, "w")] + MANY[1:]), "")

    def test_sixty_people(self):
        for number in range(8):
            lineup = mixed_lineup(60, LETTERS[:1 + 3 * number], number)
            self.check(lineup)
            for person in (0, 17, 59):
                self.assertIn(dict(lineup)[person], self.check(call_by_hand(lineup, person)[0]))

    def test_the_way_back_from_every_call(self):
        for lineup in small_lineups(3, "abc"):
            for position, (person, color) in enumerate(lineup):
                self.assertEqual(lineup_before(call_by_hand(lineup, person)[0], position, color), lineup)

    def test_kinds_of_the_results(self):
        self.assertIs(type(possible_old_colors(STUCK)), str)
        self.assertEqual(possible_old_colors(STUCK), "")
        before = lineup_before(EXAMPLE, 2, "a")
        self.assertIs(type(before), list)
        self.assertIs(is_lineup(before), True)


class Counts(unittest.TestCase):
    def test_examples(self):
        self.assertEqual(count_lineups(3, 2), 48)
        self.assertEqual(count_lineups_after_call(3, 2), 36)

    def test_small_numbers_one_by_one(self):
        for letters in range(1, 6):
            for people in range(1, 5 if letters < 5 else 4):
                lineups = [one for one in small_lineups(people, LETTERS[:letters]) if len(one) == people]
                self.assertEqual(count_lineups(people, letters), len(lineups))
                following = [one for one in lineups if befores_by_hand(one)] if people < 4 else [
                    one for one in lineups if can_follow_call(one)
                ]
                self.assertEqual(count_lineups_after_call(people, letters), len(following))

    def test_more_people(self):
        for people, letters in ((5, 3), (6, 2), (8, 2), (10, 1)):
            rows = [list(enumerate(row)) for row in product(LETTERS[:letters], repeat=people)]
            self.assertEqual(count_lineups(people, letters), factorial(people) * len(rows))
            following = [row for row in rows if befores_by_hand(row)]
            self.assertEqual(count_lineups_after_call(people, letters), factorial(people) * len(following))

    def test_one_person(self):
        for letters in range(1, 27):
            self.assertEqual(count_lineups(1, letters), letters)
            self.assertEqual(count_lineups_after_call(1, letters), letters)

    def test_one_letter(self):
        for people in range(1, 61):
            self.assertEqual(count_lineups(people, 1), factorial(people))
            self.assertEqual(count_lineups_after_call(people, 1), factorial(people))

    def test_sixty_people_and_twenty_six_letters(self):
        self.assertEqual(count_lineups(60, 26), factorial(60) * 26 ** 60)
        # The 26 rows of others with one color leave one color to the front person, all others two.
        expected = factorial(60) * (26 + 2 * (26 ** 59 - 26))
        self.assertEqual(count_lineups_after_call(60, 26), expected)
        self.assertIs(type(count_lineups(60, 26)), int)
        self.assertIs(type(count_lineups_after_call(60, 26)), int)


class Errors(ErrorCase):
    def test_no_lineup(self):
        for at, value in enumerate(WRONG_LINEUPS):
            with self.subTest(at):
                self.assert_raises(InvalidLineupError, can_follow_call, value)
                self.assert_raises(InvalidLineupError, possible_old_colors, value)
                self.assert_raises(InvalidLineupError, lineup_before, value, 0, "a")
                self.assert_raises(InvalidLineupError, lineup_before, value, -1, "A")

    def test_no_position(self):
        for lineup in (EXAMPLE, ALIKE, STUCK, M):
            for at, value in enumerate(WRONG_INTEGERS + [3, 4, 60, 10 ** 30, "1", 1.0]):
                with self.subTest(lineup=lineup, at=at):
                    self.assert_raises(InvalidPositionError, lineup_before, lineup, value, "a")
        self.assert_raises(InvalidPositionError, lineup_before, ONE, 1, "q")

    def test_no_possible_color(self):
        for lineup in (EXAMPLE, STUCK, L, M, N, ONE, MANY, [(0, "a"), (1, "a"), (2, "b")]):
            possible = {color for _, color in befores_by_hand(lineup)}
            for color in LETTERS:
                if color not in possible:
                    self.assert_raises(InvalidColorError, lineup_before, lineup, 0, color)

    def test_no_color(self):
        for lineup in (EXAMPLE, ALIKE, ONE, M):
            for at, value in enumerate(WRONG_COLORS + ["abc", "bc", LETTERS, "de"]):
                with self.subTest(lineup=lineup, at=at):
                    self.assert_raises(InvalidColorError, lineup_before, lineup, 0, value)

    def test_the_position_is_looked_at_before_the_color(self):
        for lineup in (EXAMPLE, STUCK, ALIKE):
            for color in ("a", "z", "A", "", None, ["a"]):
                for position in (-1, 3, True, "0", None):
                    self.assert_raises(InvalidPositionError, lineup_before, lineup, position, color)

    def test_no_number(self):
        for function in (count_lineups, count_lineups_after_call):
            for at, wrong in enumerate(WRONG_INTEGERS + [0, 61, 200, 10 ** 30, "1", 1.0]):
                with self.subTest(function=function.__name__, at=at):
                    self.assert_raises(InvalidNumberError, function, wrong, 2)
                    self.assert_raises(InvalidNumberError, function, wrong, 0)
            for at, wrong in enumerate(WRONG_INTEGERS + [0, 27, 60, 10 ** 30, "1", 1.0]):
                with self.subTest(function=function.__name__, at=at):
                    self.assert_raises(InvalidNumberError, function, 2, wrong)
                    self.assert_raises(InvalidNumberError, function, 1, wrong)


if __name__ == "__main__":
    unittest.main()

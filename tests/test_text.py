"""Promise 27: lineups and call lists as text, and back."""

import unittest
from itertools import product

from lastother.errors import InvalidLineupError
from lastother.lineups import is_lineup
from lastother.text import calls_from_text, calls_to_text, lineup_from_text, lineup_to_text
from tests.errorcase import ErrorCase
from tests.helpers import (
    L, LETTERS, M, N, WRONG_INTEGERS, WRONG_LINEUPS, WRONG_LISTS, TextKind, Touchy, circle, long_calls, mixed_lineup,
    small_lineups,
)

ONE = [(0, "q")]
NO_STRINGS = [
    None, True, False, 0, 1, 0.5, b"", b"0", b"0a", [], ["0a"], ["0"], (), ("0",), {}, {"0": 1}, {"0a"}, L, object(),
    str, TextKind("0a"), TextKind("0"), TextKind(""), circle(), Touchy(),
]
# Numbers that are no words: empty, with a sign, with a leading zero, with other characters.
NO_NUMBERS = [
    "", "-", "+", "-1", "+1", "-0", "+0", "00", "01", "007", "0_1", "1_0", "1.0", "1e3", "0x1", "a", "A", "1\n", "\n1",
    "\n", "1\t", "\t", "1,", ",", "1;2", "\u0661", "\u00b2", "\uff11", "1\u0661", "\u00bd", "one", "0b1", "1L", "\x00",
]
NO_COLORS = ["", "A", "Z", "`", "{", "1", "-", "ab", "a\n", "\n", "\t", "\u00e9", "\u00df", "a,", ",", "\uff41"]


def can_begin_lineup(words):
    """Whether the text of some lineup begins with these words: they can be filled up to 60 people."""
    people = [str(person) for person in range(60)]
    return all(word[:-1] in people and word[-1] in LETTERS for word in words if word) and "" not in words and (
        len({word[:-1] for word in words}) == len(words)
    )


def lineup_by_hand(text):
    """The lineup of a text, or the index that the error has."""
    words = text.split(" ")
    for index in range(len(words)):
        if not can_begin_lineup(words[:index + 1]):
            return index
    lineup = [(int(word[:-1]), word[-1]) for word in words]
    return lineup if {person for person, _ in lineup} == set(range(len(words))) else len(words)


class LineupTexts(ErrorCase):
    def check(self, text):
        """Compare with the text read word by word; return the lineup, or the index of the error."""
        expected = lineup_by_hand(text)
        if type(expected) is int:
            self.assert_text_index(expected, lineup_from_text, text)
        else:
            self.assertEqual(lineup_from_text(text), expected)
            self.assertEqual(lineup_to_text(expected), text)
        return expected

    def test_examples(self):
        self.assertEqual(lineup_to_text(L), "0a 1b 2c 3a")
        self.assert_text_index(2, lineup_from_text, "0a 2b")
        self.assert_text_index(1, lineup_from_text, "0a 0b")
        self.assert_text_index(0, lineup_from_text, "60a")
        self.assert_text_index(0, lineup_from_text, "")

    def test_there_and_back(self):
        lineups = [ONE, M, N, L, [(1, "z"), (0, "a")]] + list(small_lineups(3, "abz"))
        lineups += [mixed_lineup(size, LETTERS, size) for size in range(1, 61)]
        for lineup in lineups:
            text = lineup_to_text(lineup)
            self.assertEqual(text, " ".join(f"{person}{color}" for person, color in lineup))
            self.assertEqual(lineup_from_text(text), lineup)
            self.assertEqual(lineup_to_text(lineup_from_text(text)), text)

    def test_sixty_people(self):
        text = " ".join(f"{person}x" for person in range(59, -1, -1))
        self.assertEqual(lineup_from_text(text), [(person, "x") for person in range(59, -1, -1)])
        self.assert_text_index(60, lineup_from_text, text + " 0a")
        self.assert_text_index(60, lineup_from_text, text + " 60a")
        self.assert_text_index(60, lineup_from_text, text + " ")
        self.assert_text_index(59, lineup_from_text, text[:-3])

    def test_a_missing_person(self):
        self.assertEqual(self.check("1a"), 1)
        self.assertEqual(self.check("59a"), 1)
        self.assertEqual(self.check("1a 2b"), 2)
        self.assertEqual(self.check("0a 1b 3c"), 3)
        self.assertEqual(self.check("3c 1b 0a"), 3)

    def test_a_person_twice(self):
        self.assertEqual(self.check("0a 0a"), 1)
        self.assertEqual(self.check("1a 0b 1a"), 2)
        self.assertEqual(self.check("5a 5a 0b"), 1)

    def test_a_person_above_59(self):
        for word in ("60a", "61a", "99a", "100a", "590a", "9" * 3999 + "a"):
            self.assert_text_index(0, lineup_from_text, word)
            self.assert_text_index(1, lineup_from_text, "0b " + word)
            self.assert_text_index(2, lineup_from_text, "59c 0b " + word + " 1a")

    def test_wrong_numbers_at_each_place(self):
        words = ["2c", "0a", "3a", "1b"]
        for place in range(4):
            for number in NO_NUMBERS:
                text = " ".join(words[:place] + [number + "a"] + words[place + 1:])
                self.assert_text_index(place, lineup_from_text, text)

    def test_wrong_colors_at_each_place(self):
        words = ["2c", "0a", "3a", "1b"]
        for place in range(4):
            for color in NO_COLORS:
                text = " ".join(words[:place] + [words[place][:-1] + color] + words[place + 1:])
                self.assert_text_index(place, lineup_from_text, text)

    def test_spaces(self):
        self.assertEqual(self.check("0a  1b"), 1)
        self.assertEqual(self.check("0a 1b "), 2)
        self.assertEqual(self.check(" 0a 1b"), 0)
        self.assertEqual(self.check(" "), 0)
        self.assertEqual(self.check("  "), 0)
        self.assertEqual(self.check("0a 1b  "), 2)
        self.assertEqual(self.check("0 a"), 0)
        self.assertEqual(self.check("0a 1 b"), 1)

    def test_line_feeds(self):
        self.assertEqual(self.check("0a\n"), 0)
        self.assertEqual(self.check("0a 1b\n"), 1)
        self.assertEqual(self.check("0a\n1b"), 0)
        self.assertEqual(self.check("\n0a"), 0)
        self.assertEqual(self.check("0a \n1b"), 1)

    def test_the_first_wrong_word_counts(self):
        self.assertEqual(self.check("0a 0b 60a"), 1)
        self.assertEqual(self.check("0a 60b 0c"), 1)
        self.assertEqual(self.check("5a 7b x"), 2)
        self.assertEqual(self.check("x 0a 0a"), 0)

    def test_all_short_texts(self):
        found = set()
        for length in range(1, 6):
            for signs in product("01aB ", repeat=length):
                found.add(str(self.check("".join(signs))))
        lineups = {"[(0, 'a')]", "[(0, 'a'), (1, 'a')]", "[(1, 'a'), (0, 'a')]"}
        self.assertEqual(found, lineups | {"0", "1"})

    def test_all_texts_of_four_words(self):
        for length in range(1, 5):
            for words in product(["0a", "1b", "2a", "59z", "02a", "0"], repeat=length):
                self.check(" ".join(words))

    def test_no_string(self):
        for at, value in enumerate(NO_STRINGS):
            with self.subTest(at):
                self.assert_text_index(None, lineup_from_text, value)

    def test_no_lineup(self):
        for at, value in enumerate(WRONG_LINEUPS):
            with self.subTest(at):
                self.assert_raises(InvalidLineupError, lineup_to_text, value)

    def test_kinds_of_the_results(self):
        self.assertIs(type(lineup_to_text(L)), str)
        lineup = lineup_from_text("1b 0a")
        self.assertIs(is_lineup(lineup), True)
        self.assertIsNot(lineup, lineup_from_text("1b 0a"))


class CallTexts(ErrorCase):
    def test_examples(self):
        self.assertEqual(calls_to_text([3, 0, 1]), "3 0 1")
        self.assert_text_index(1, calls_from_text, "3 03")
        self.assertEqual(calls_from_text(""), [])

    def test_there_and_back(self):
        lists = [[], [0], [7], [10, 0, 10], long_calls(60, 200), [0] * 200, list(range(200))]
        lists += [[10 ** k, 10 ** k - 1, 10 ** k + 1] for k in range(1, 32)]
        for calls in lists:
            text = calls_to_text(calls)
            self.assertEqual(text, " ".join(str(number) for number in calls))
            self.assertEqual(calls_from_text(text), calls)
            self.assertEqual(calls_to_text(calls_from_text(text)), text)

    def test_many_digits(self):
        for size in (31, 59, 60, 61, 62, 119, 120, 121, 179, 180, 181, 1000, 4000, 4299, 4300, 4301, 9000):
            for text in ("1" + "0" * (size - 1), "9" * size, ("1234567890" * 900)[:size]):
                number = 0
                for digit in text:
                    number = 10 * number + "0123456789".index(digit)
                self.assertEqual(calls_from_text(text), [number])
                self.assertEqual(calls_to_text([number]), text)
                self.assertEqual(calls_from_text("5 " + text + " 0"), [5, number, 0])
                self.assertEqual(calls_to_text([5, number, 0]), "5 " + text + " 0")
                self.assert_text_index(1, calls_from_text, "5 0" + text)
                self.assert_text_index(0, calls_from_text, text + "a")

    def test_many_numbers(self):
        text = "0 " * 1999 + "12"
        self.assertEqual(calls_from_text(text), [0] * 1999 + [12])
        self.assertEqual(calls_to_text(calls_from_text(text)), text)
        self.assert_text_index(2000, calls_from_text, text + " ")

    def test_wrong_words_at_each_place(self):
        words = ["12", "0", "3", "3"]
        for place in range(4):
            for wrong in NO_NUMBERS + ["0a", "1b", "1A"]:
                text = " ".join(words[:place] + [wrong] + words[place + 1:])
                self.assert_text_index(place, calls_from_text, text)

    def test_one_wrong_word(self):
        for wrong in NO_NUMBERS[1:]:
            self.assert_text_index(0, calls_from_text, wrong)

    def test_spaces_and_line_feeds(self):
        for text, index in (
            (" ", 0), ("  ", 0), (" 3", 0), ("3 ", 1), ("3  ", 1), ("3  4", 1), ("3 4 ", 2), ("3 4  5", 2),
            ("\n", 0), ("3\n", 0), ("3 4\n", 1), ("3\n4", 0), ("3 \n4", 1), ("3 \n", 1),
        ):
            self.assert_text_index(index, calls_from_text, text)

    def test_the_first_wrong_word_counts(self):
        self.assert_text_index(1, calls_from_text, "3 03 04")
        self.assert_text_index(2, calls_from_text, "3 4 -1 x")

    def test_no_string(self):
        for at, value in enumerate(NO_STRINGS):
            with self.subTest(at):
                self.assert_text_index(None, calls_from_text, value)

    def test_no_calls(self):
        for at, wrong in enumerate(WRONG_LISTS):
            with self.subTest(at):
                self.assert_index(None, calls_to_text, wrong)
        for at, wrong in enumerate(WRONG_INTEGERS):
            with self.subTest(at):
                self.assert_index(0, calls_to_text, [wrong])
                self.assert_index(2, calls_to_text, [0, 10 ** 30, wrong, 0])
                self.assert_index(1, calls_to_text, [5, wrong, wrong])

    def test_kinds_of_the_results(self):
        self.assertIs(type(calls_to_text([3])), str)
        self.assertIs(type(calls_to_text([])), str)
        for text in ("", "3 0 1"):
            calls = calls_from_text(text)
            self.assertIs(type(calls), list)
            self.assertTrue(all(type(number) is int for number in calls))
            self.assertIsNot(calls, calls_from_text(text))


if __name__ == "__main__":
    unittest.main()

"""Promise 3: the error classes."""

import unittest

from lastother import errors
from lastother.errors import InvalidCallsError, InvalidTextError, LineupError, TooManyPeopleError

WITH_STRING = [
    "InvalidLineupError", "InvalidPersonError", "InvalidColorError", "InvalidColorsError",
    "InvalidChainError", "InvalidBoundError", "InvalidNumberError", "InvalidOrderError",
    "InvalidPositionError", "EmptyHistoryError",
]
WITH_ATTRIBUTE = {"InvalidCallsError": "index", "TooManyPeopleError": "people", "InvalidTextError": "index"}
ALL = WITH_STRING + list(WITH_ATTRIBUTE)


def made(name):
    return getattr(errors, name)(3 if name in WITH_ATTRIBUTE else "why")


class ErrorClasses(unittest.TestCase):
    def test_the_base_derives_from_value_error_alone(self):
        self.assertEqual(LineupError.__bases__, (ValueError,))
        self.assertIsInstance(LineupError("why"), ValueError)

    def test_there_are_thirteen_and_no_other(self):
        found = [name for name, value in vars(errors).items() if isinstance(value, type)]
        self.assertEqual(len(ALL), 13)
        self.assertEqual(sorted(found), sorted(ALL + ["LineupError"]))

    def test_each_is_a_direct_subclass_of_the_base(self):
        for name in ALL:
            with self.subTest(name):
                self.assertEqual(getattr(errors, name).__bases__, (LineupError,))

    def test_each_is_a_value_error_and_none_of_the_others(self):
        for name in ALL:
            error = made(name)
            with self.subTest(name):
                self.assertIsInstance(error, ValueError)
                self.assertIsInstance(error, LineupError)
                kinds = [other for other in ALL if isinstance(error, getattr(errors, other))]
                self.assertEqual(kinds, [name])

    def test_each_can_be_raised_and_caught_as_the_base(self):
        for name in ALL:
            with self.subTest(name):
                with self.assertRaises(LineupError) as caught:
                    raise made(name)
                self.assertIs(type(caught.exception), getattr(errors, name))

    def test_ten_are_constructed_with_one_string(self):
        for name in WITH_STRING:
            with self.subTest(name):
                self.assertEqual(str(getattr(errors, name)("some words")), "some words")

    def test_attribute_by_position(self):
        for value in (0, 3, 199, None):
            self.assertEqual(InvalidCallsError(value).index, value)
            self.assertEqual(InvalidTextError(value).index, value)
        for value in (5, 60):
            self.assertEqual(TooManyPeopleError(value).people, value)

    def test_attribute_by_keyword(self):
        for value in (0, 3, 199, None):
            self.assertEqual(InvalidCallsError(index=value).index, value)
            self.assertEqual(InvalidTextError(index=value).index, value)
        for value in (5, 60):
            self.assertEqual(TooManyPeopleError(people=value).people, value)

    def test_an_attribute_belongs_to_its_own_object(self):
        first, second = InvalidCallsError(1), InvalidCallsError(2)
        self.assertEqual((first.index, second.index), (1, 2))

    def test_the_one_value_is_required(self):
        for name in WITH_ATTRIBUTE:
            with self.subTest(name):
                with self.assertRaises(TypeError):
                    getattr(errors, name)()


if __name__ == "__main__":
    unittest.main()

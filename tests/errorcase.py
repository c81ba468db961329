"""Test cases that look at the errors of the program."""

import unittest

from lastother.errors import InvalidCallsError, InvalidTextError, LineupError
from tests.helpers import L, WRONG_INTEGERS, WRONG_LISTS


class ErrorCase(unittest.TestCase):
    def assert_raises(self, error, function, *args):
        """Check that exactly this error is raised, and return it."""
        with self.assertRaises(error) as caught:
            function(*args)
        self.assertIs(type(caught.exception), error)
        self.assertIsInstance(caught.exception, LineupError)
        self.assertIsInstance(caught.exception, ValueError)
        return caught.exception

    def assert_index(self, index, function, *args):
        """Check that InvalidCallsError is raised with exactly this index."""
        self.assert_same(index, self.assert_raises(InvalidCallsError, function, *args).index)

    def assert_text_index(self, index, function, *args):
        """Check that InvalidTextError is raised with exactly this index."""
        self.assert_same(index, self.assert_raises(InvalidTextError, function, *args).index)

    def assert_same(self, expected, found):
        self.assertEqual(found, expected)
        self.assertIs(type(found), type(expected))

    def assert_wrong_calls(self, calls_with):
        """Check the indexes of wrong call lists; calls_with gives what to call with a lineup and a call list."""
        for at, wrong in enumerate(WRONG_LISTS):
            for call in calls_with(L, wrong):
                with self.subTest(at=at, function=call[0].__name__):
                    self.assert_index(None, *call)
        for at, wrong in enumerate(WRONG_INTEGERS + ["1", 4, 60, 10 ** 30]):
            for calls in ([wrong], [wrong, 0], [0, 3, wrong, 2], [0, 3, 2, wrong], [0, wrong, -1]):
                index = [place for place, item in enumerate(calls) if item is wrong][0]
                for call in calls_with(L, calls):
                    with self.subTest(at=at, function=call[0].__name__):
                        self.assert_index(index, *call)

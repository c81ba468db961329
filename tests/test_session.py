"""Promise 26: sessions with undo and redo."""

import copy
import unittest

from lastother.errors import EmptyHistoryError, InvalidLineupError, InvalidPersonError
from lastother.lineups import colors_in_order
from lastother.session import Session
from tests.errorcase import ErrorCase
from tests.helpers import (
    L, LETTERS, M, N, WRONG_INTEGERS, WRONG_LINEUPS, call_by_hand, colors_of, long_calls, mixed_lineup, small_lineups,
)

ONE = [(0, "q")]
ALIKE = [(2, "e"), (0, "e"), (1, "e")]
SIXTY = mixed_lineup(60, LETTERS[:9], 4)


class Model:
    """What a session tells, worked out from its first lineup and its lists of calls each time."""

    def __init__(self, lineup):
        self.lineup = list(lineup)
        self.done = []
        self.undone = []

    def replayed(self):
        current, colors = self.lineup, []
        for person in self.done:
            current, taken = call_by_hand(current, person)
            colors.append(taken)
        return current, colors

    def call(self, person):
        self.done.append(person)
        self.undone = []
        return self.replayed()[1][-1]

    def undo(self):
        self.undone.insert(0, self.done.pop())

    def redo(self):
        self.done.append(self.undone.pop(0))


def told(session):
    """Everything that a session tells."""
    return (
        session.current_lineup(), session.current_colors(), session.done_calls(), session.effective_count(),
        session.called_people(), len(session),
    )


def told_by(model):
    current, colors = model.replayed()
    return (
        current, "".join(dict.fromkeys(colors_of(current))), model.done, sum(color is not None for color in colors),
        sorted(set(model.done)), len(model.done),
    )


def redone(session):
    """The calls that can be redone, found with a duplicate."""
    other, calls = session.duplicate(), []
    while True:
        try:
            other.redo()
        except EmptyHistoryError:
            return calls
        calls.append(other.done_calls()[-1])


class Operations(unittest.TestCase):
    def run_both(self, lineup, operations):
        """Apply operations to a session and to the model, and compare them after each one."""
        session, model = Session(lineup), Model(lineup)
        for operation in operations:
            if operation == "undo" and model.done:
                self.assertIsNone(session.undo())
                model.undo()
            elif operation == "redo" and model.undone:
                self.assertIsNone(session.redo())
                model.redo()
            elif operation in ("undo", "redo"):
                with self.assertRaises(EmptyHistoryError):
                    getattr(session, operation)()
            else:
                self.assertEqual(session.call(operation), model.call(operation))
            self.assertEqual(told(session), told_by(model))
            self.assertEqual(redone(session), model.undone)
        return session, model

    def test_examples(self):
        self.assertEqual(len(Session(M)), 0)
        self.assertEqual(Session(M).call(0), "b")
        session = Session(M)
        session.call(0)
        session.call(0)
        session.undo()
        self.assertEqual(session.current_lineup(), [(0, "b"), (1, "b"), (2, "c")])
        session = Session(M)
        session.call(0)
        self.assertEqual(session.current_colors(), "bc")
        session = Session(M)
        session.call(0)
        session.call(2)
        session.undo()
        session.redo()
        self.assertEqual(session.done_calls(), [0, 2])
        session = Session(N)
        session.call(0)
        session.call(1)
        self.assertEqual(session.effective_count(), 1)
        session = Session(M)
        for person in (2, 0, 2):
            session.call(person)
        self.assertEqual(session.called_people(), [0, 2])
        session = Session(M)
        other = session.duplicate()
        other.call(0)
        self.assertEqual(len(session.done_calls()), 0)

    def test_a_new_session(self):
        for lineup in (ONE, ALIKE, L, M, N, SIXTY):
            self.assertEqual(told(Session(lineup)), (lineup, colors_in_order(lineup), [], 0, [], 0))

    def test_each_small_lineup(self):
        for lineup in small_lineups(3, "abc"):
            people = len(lineup)
            self.run_both(lineup, [0, people - 1, "undo", "undo", "redo", 0, "redo", "undo", "undo", "undo", people - 1])

    def test_many_sequences(self):
        for number in range(60):
            lineup = mixed_lineup(2 + number % 5, "abcd"[:1 + number % 4], number)
            codes = long_calls(len(lineup) + 4, 40, number)
            words = {len(lineup): "undo", len(lineup) + 1: "undo", len(lineup) + 2: "redo", len(lineup) + 3: "redo"}
            self.run_both(lineup, [words.get(code, code) for code in codes])

    def test_three_hundred_operations(self):
        codes = long_calls(90, 300, 11)
        operations = [code if code < 60 else ["undo", "undo", "redo"][code % 3] for code in codes]
        self.run_both(SIXTY, operations)
        self.run_both(SIXTY, long_calls(60, 100) + ["undo"] * 100 + ["redo"] * 100)
        session, model = self.run_both(SIXTY, long_calls(60, 299) + ["undo"])
        self.assertEqual(len(session), 298)
        self.assertEqual(session.effective_count(), told_by(model)[3])

    def test_calls_that_take_no_color(self):
        session, _ = self.run_both(ALIKE, [1, 1, "undo", 0, 2])
        self.assertEqual(session.effective_count(), 0)
        self.assertEqual(session.current_lineup(), [(2, "e"), (0, "e"), (1, "e")])
        self.assertEqual(session.called_people(), [0, 1, 2])
        self.assertIsNone(Session(ONE).call(0))
        session, _ = self.run_both(N, [1, 1, 0, "undo", "redo", "undo"])
        self.assertEqual(session.effective_count(), 1)

    def test_a_call_discards_the_undone_calls(self):
        session, _ = self.run_both(M, [0, 1, 2, "undo", "undo", 2])
        self.assertEqual(session.done_calls(), [0, 2])
        self.assertEqual(redone(session), [])
        # Also the call that was undone last, once more.
        session, _ = self.run_both(M, [0, 1, "undo", "undo", 0, "redo"])
        self.assertEqual(session.done_calls(), [0])

    def test_redo_after_redo(self):
        session, _ = self.run_both(L, [3, 1, 2, "undo", "undo", "undo", "redo", "redo", "redo", "redo"])
        self.assertEqual(session.done_calls(), [3, 1, 2])
        session, _ = self.run_both(L, [3, 1, "undo", "undo", "redo", "undo", "redo", "redo"])
        self.assertEqual(session.done_calls(), [3, 1])

    def test_kinds_of_the_results(self):
        session = Session(lineup=L)
        self.assertIs(type(session.call(person=1)), str)
        self.assertIs(type(session.current_lineup()), list)
        self.assertTrue(all(type(pair) is tuple for pair in session.current_lineup()))
        self.assertIs(type(session.current_colors()), str)
        self.assertIs(type(session.done_calls()), list)
        self.assertIs(type(session.effective_count()), int)
        self.assertIs(type(session.called_people()), list)
        self.assertIs(type(session.duplicate()), Session)
        self.assertIs(type(len(session)), int)


class Copies(unittest.TestCase):
    def test_the_lineup_is_unchanged(self):
        lineup = copy.deepcopy(L)
        session = Session(lineup)
        for person in (1, 0, 3):
            session.call(person)
        session.undo()
        session.redo()
        self.assertEqual(lineup, L)

    def test_the_lineup_is_changed_afterwards(self):
        lineup = copy.deepcopy(M)
        session = Session(lineup)
        session.call(0)
        lineup[0] = (0, "z")
        lineup.append((3, "a"))
        self.assertEqual(session.current_lineup(), [(0, "b"), (1, "b"), (2, "c")])
        session.undo()
        self.assertEqual(session.current_lineup(), M)
        lineup.clear()
        session.redo()
        self.assertEqual(told(session), told_by(self.model(M, [0])))

    def model(self, lineup, calls):
        model = Model(lineup)
        for person in calls:
            model.call(person)
        return model

    def test_returned_lists_are_changed_afterwards(self):
        session = Session(L)
        for moment, person in enumerate([None, 1, 0, 0, 3]):
            if moment:
                session.call(person)
            expected = told(session)
            for method in (session.current_lineup, session.done_calls, session.called_people):
                first, second = method(), method()
                self.assertIsNot(first, second)
                first.append("more")
                first[0] = "other"
                self.assertEqual(told(session), expected)
        for _ in range(4):
            session.current_lineup().clear()
            session.undo()
        self.assertEqual(session.current_lineup(), L)

    def test_a_result_may_be_passed_back(self):
        session = Session(L)
        session.call(2)
        other = Session(session.current_lineup())
        self.assertEqual(other.current_lineup(), session.current_lineup())
        self.assertEqual(len(other), 0)


class Duplicates(unittest.TestCase):
    def session(self):
        session = Session(L)
        for person in (1, 0, 2, 3):
            session.call(person)
        session.undo()
        session.undo()
        return session

    def test_it_has_the_same_lineups_and_calls(self):
        session = self.session()
        other = session.duplicate()
        self.assertIsNot(other, session)
        self.assertEqual(told(other), told(session))
        self.assertEqual(redone(other), [2, 3])
        for _ in range(2):
            other.undo()
        self.assertEqual(other.current_lineup(), L)

    def test_they_are_independent(self):
        for change in ("call", "undo", "redo"):
            session = self.session()
            other = session.duplicate()
            for changed, kept in ((session, other), (other.duplicate(), other)):
                before = told(kept)
                if change == "call":
                    changed.call(0)
                else:
                    getattr(changed, change)()
                self.assertNotEqual(told(changed), before)
                self.assertEqual(told(kept), before)
                self.assertEqual(redone(kept), [2, 3])

    def test_a_duplicate_of_a_duplicate(self):
        session = self.session()
        other = session.duplicate().duplicate()
        session.call(0)
        other.redo()
        self.assertEqual(other.done_calls(), [1, 0, 2])
        self.assertEqual(redone(other), [3])


class Equality(unittest.TestCase):
    def test_equal_and_unequal_sessions(self):
        first, second = Session(M), Session(M)
        self.assertTrue(first == second)
        self.assertFalse(first != second)
        first.call(0)
        self.assertFalse(first == second)
        self.assertTrue(first != second)
        second.call(0)
        self.assertTrue(first == second)
        self.assertTrue(first == first.duplicate())

    def test_only_the_current_lineups_count(self):
        first = Session(M)
        first.call(0)
        second = Session([(0, "b"), (1, "b"), (2, "c")])
        self.assertTrue(first == second)
        third = Session(M)
        for person in (0, 2, 0):
            third.call(person)
        third.undo()
        third.undo()
        self.assertTrue(first == third)
        third.redo()
        self.assertFalse(first == third)

    def test_another_order_or_other_colors(self):
        self.assertFalse(Session(M) == Session([(1, "b"), (0, "a"), (2, "c")]))
        self.assertFalse(Session(M) == Session([(0, "a"), (1, "b"), (2, "d")]))
        self.assertFalse(Session(M) == Session(N))

    def test_a_session_and_another_value(self):
        class Same:
            def __eq__(self, other):
                return True

        for other in (M, tuple(M), None, True, False, 0, "", "0a 1b 2c", {}, object(), Session):
            self.assertFalse(Session(M) == other)
            self.assertFalse(other == Session(M))
            self.assertTrue(Session(M) != other)
        self.assertFalse(Session(M) == Same())
        self.assertTrue(Session(M) != None)  # noqa: E711


class Errors(ErrorCase):
    def test_no_lineup(self):
        for at, value in enumerate(WRONG_LINEUPS):
            with self.subTest(at):
                self.assert_raises(InvalidLineupError, Session, value)

    def test_no_person(self):
        for calls in ([], [1], [3, 0, 2]):
            session = Session(L)
            for person in calls + [0, 1]:
                session.call(person)
            session.undo()
            session.undo()
            before = told(session)
            for at, wrong in enumerate(WRONG_INTEGERS + [4, 60, 10 ** 30, "1", 1.0, [1], L[0]]):
                with self.subTest(calls=calls, at=at):
                    self.assert_raises(InvalidPersonError, session.call, wrong)
                    self.assertEqual(told(session), before)
                    self.assertEqual(redone(session), [0, 1])
            session.redo()
            self.assertEqual(session.done_calls(), calls + [0])
        self.assert_raises(InvalidPersonError, Session(ONE).call, 1)

    def test_nothing_is_done(self):
        session = Session(M)
        self.assert_raises(EmptyHistoryError, session.undo)
        self.assertEqual(told(session), told(Session(M)))
        session.call(2)
        session.undo()
        before = told(session)
        for _ in range(3):
            self.assert_raises(EmptyHistoryError, session.undo)
            self.assertEqual(told(session), before)
        self.assertEqual(redone(session), [2])
        session.redo()
        self.assertEqual(session.done_calls(), [2])

    def test_nothing_is_undone(self):
        session = Session(M)
        self.assert_raises(EmptyHistoryError, session.redo)
        session.call(2)
        session.call(1)
        for _ in range(3):
            self.assert_raises(EmptyHistoryError, session.redo)
            self.assertEqual(session.done_calls(), [2, 1])
        session.undo()
        session.redo()
        before = told(session)
        self.assert_raises(EmptyHistoryError, session.redo)
        self.assertEqual(told(session), before)

    def test_redo_after_a_call(self):
        session = Session(M)
        session.call(2)
        session.undo()
        session.call(1)
        before = told(session)
        self.assert_raises(EmptyHistoryError, session.redo)
        self.assertEqual(told(session), before)
        session.undo()
        session.redo()
        self.assertEqual(told(session), before)


if __name__ == "__main__":
    unittest.main()

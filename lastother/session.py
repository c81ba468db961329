"""Sessions: a lineup and the calls that were applied to it, with undo and redo."""

from lastother.calls import apply_call, check_person, colors_taken
from lastother.errors import EmptyHistoryError
from lastother.lineups import check_lineup, colors_in_order


class Session:
    """A lineup, its done calls and its undone calls."""

    def __init__(self, lineup):
        check_lineup(lineup)
        # The lineup at each moment: one more than there are done calls. None of them is ever changed.
        self._moments = [list(lineup)]
        self._done = []
        # The call that was undone last stands at the end.
        self._undone = []

    def call(self, person):
        """Apply a call, discard the undone calls, and return the color taken, or None."""
        check_person(self._moments[-1], person)
        self._undone = []
        return self._apply(person)

    def undo(self):
        """Revert the last done call."""
        if not self._done:
            raise EmptyHistoryError("no call is done")
        self._moments.pop()
        self._undone.append(self._done.pop())

    def redo(self):
        """Apply the call that was undone last once more."""
        if not self._undone:
            raise EmptyHistoryError("no call is undone")
        self._apply(self._undone.pop())

    def current_lineup(self):
        """Return the lineup after the done calls."""
        return list(self._moments[-1])

    def current_colors(self):
        """Return the colors of the current lineup in the order of their first persons."""
        return colors_in_order(self._moments[-1])

    def done_calls(self):
        """Return the done calls in the order in which they were applied."""
        return list(self._done)

    def effective_count(self):
        """Return how many of the done calls took a color."""
        taken = colors_taken(self._moments[0], self._done)
        return len([color for color in taken if color is not None])

    def called_people(self):
        """Return the persons that occur among the done calls, in ascending order."""
        return sorted(set(self._done))

    def duplicate(self):
        """Return a new session that goes on from here without this one."""
        twin = Session(self._moments[0])
        twin._moments = list(self._moments)
        twin._done = list(self._done)
        twin._undone = list(self._undone)
        return twin

    def __len__(self):
        return len(self._done)

    def __eq__(self, other):
        return isinstance(other, Session) and self._moments[-1] == other._moments[-1]

    def _apply(self, person):
        """Apply a call to the current lineup, and return the color taken, or None."""
        after, taken = apply_call(self._moments[-1], person)
        self._moments.append(after)
        self._done.append(person)
        return taken

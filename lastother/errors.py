"""The errors of the package."""


class LineupError(ValueError):
    """The base of every error that the package raises."""


class InvalidLineupError(LineupError):
    """A value is not a lineup."""


class InvalidPersonError(LineupError):
    """A value is not a person of the lineup."""


class InvalidColorError(LineupError):
    """A value is not a color that may stand there."""


class InvalidColorsError(LineupError):
    """A value is not a color set."""


class InvalidChainError(LineupError):
    """A value is not a chain for the lineup and the color set."""


class InvalidBoundError(LineupError):
    """A value is not a bound for the lineup."""


class InvalidNumberError(LineupError):
    """A value is not a number that may stand there."""


class InvalidOrderError(LineupError):
    """A value is not a list of all persons of the lineup, each exactly once."""


class InvalidPositionError(LineupError):
    """A value is not a position of the lineup."""


class EmptyHistoryError(LineupError):
    """There is no call to undo or to redo."""


class InvalidCallsError(LineupError):
    """A value is not a call list; `index` is the position of its first wrong item, or None."""

    def __init__(self, index):
        super().__init__("not a call list")
        self.index = index


class TooManyPeopleError(LineupError):
    """A lineup has too many people; `people` is their number."""

    def __init__(self, people):
        super().__init__("too many people in the lineup")
        self.people = people


class InvalidTextError(LineupError):
    """A value is not a valid text; `index` is the position of its first wrong word, or None."""

    def __init__(self, index):
        super().__init__("not a valid text")
        self.index = index

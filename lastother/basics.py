"""Checks of single values, and runs of equal values."""

from lastother.errors import InvalidNumberError

# The largest index and the largest number of rounds.
LARGEST_NUMBER = 10 ** 30


def is_integer(value):
    """Return whether the value is an int that is not a bool."""
    return isinstance(value, int) and not isinstance(value, bool)


def is_integer_between(value, least, most):
    """Return whether the value is an integer from the least to the most."""
    return is_integer(value) and least <= value <= most


def check_number(value, least, most):
    """Raise InvalidNumberError if the value is not an integer from the least to the most."""
    if not is_integer_between(value, least, most):
        raise InvalidNumberError("not a number that may stand there")


def is_color(value):
    """Return whether the value is a string of one letter from a to z."""
    # Letters beyond ASCII are lowercase for islower, too: compare instead.
    return type(value) is str and len(value) == 1 and "a" <= value <= "z"


def runs_of(row):
    """Return the maximal runs of equal items as tuples (item, length)."""
    runs = []
    for item in row:
        if runs and runs[-1][0] == item:
            runs[-1] = (item, runs[-1][1] + 1)
        else:
            runs.append((item, 1))
    return runs

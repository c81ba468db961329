"""Checks of single values, and runs of equal values."""


def is_integer(value):
    """Return whether the value is an int that is not a bool."""
    return isinstance(value, int) and not isinstance(value, bool)


def is_color(value):
    """Return whether the value is a string of one letter from a to z."""
    # Letters beyond ASCII are lowercase for islower, too: compare instead.
    return type(value) is str and len(value) == 1 and "a" <= value <= "z"


def runs_of(row):
    """Return the maximal runs of equal items as tuples (item, length)."""
    runs = []
    for item in row:
        if runs and runs[-1][0] == item:
            runs[-1] = (item, runs[-1][1] + 1)
        else:
            runs.append((item, 1))
    return runs

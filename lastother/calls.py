"""Calls: what they take, and what they change."""

from lastother.basics import is_integer, runs_of
from lastother.errors import InvalidCallsError, InvalidPersonError
from lastother.lineups import check_lineup, colors_by_person, first_other_color


def color_taken(lineup, person):
    """Return the color that a call of the person takes, or None."""
    check_lineup(lineup)
    check_person(lineup, person)
    return first_other_color(lineup, colors_by_person(lineup)[person])


def colors_taken_by_each(lineup):
    """Return a list, indexed by person, of the colors that their calls take, or None."""
    check_lineup(lineup)
    return [first_other_color(lineup, color) for color in colors_by_person(lineup)]


def colors_taken(lineup, calls):
    """Return the color that each of the calls takes, or None, when they are applied in order."""
    check_lineup(lineup)
    check_calls(lineup, calls)
    current = list(lineup)
    colors = []
    for person in calls:
        current, taken = apply_call(current, person)
        colors.append(taken)
    return colors


def lineup_after(lineup, calls):
    """Return the lineup after all calls."""
    check_lineup(lineup)
    check_calls(lineup, calls)
    current = list(lineup)
    for person in calls:
        current, _ = apply_call(current, person)
    return current


def shorten_calls(calls):
    """Return the list with each run of equal numbers cut to one (odd length) or two (even)."""
    check_numbers(calls)
    shorter = []
    for number, length in runs_of(calls):
        shorter.extend([number] * (1 if length % 2 == 1 else 2))
    return shorter


def apply_call(lineup, person):
    """Return a tuple: the new lineup after a call of the person, and the color taken, or None."""
    color = colors_by_person(lineup)[person]
    taken = first_other_color(lineup, color)
    others = [pair for pair in lineup if pair[0] != person]
    return [(person, color if taken is None else taken)] + others, taken


def is_person(lineup, value):
    """Return whether the value is a person of the lineup."""
    return is_integer(value) and 0 <= value < len(lineup)


def check_person(lineup, value):
    """Raise InvalidPersonError if the value is not a person of the lineup."""
    if not is_person(lineup, value):
        raise InvalidPersonError("not a person of the lineup")


def check_calls(lineup, value):
    """Raise InvalidCallsError if the value is not a call list for the lineup."""
    if type(value) is not list:
        raise InvalidCallsError(None)
    for index, item in enumerate(value):
        if not is_person(lineup, item):
            raise InvalidCallsError(index)


def check_numbers(value):
    """Raise InvalidCallsError if the value is not a list of integers from 0 on."""
    if type(value) is not list:
        raise InvalidCallsError(None)
    for index, item in enumerate(value):
        if not is_integer(item) or item < 0:
            raise InvalidCallsError(index)

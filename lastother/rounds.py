"""Rounds: what comes of repeating a call list, and of calling everybody once."""

from lastother.basics import LARGEST_NUMBER, check_number
from lastother.calls import check_calls, is_person, lineup_after
from lastother.errors import InvalidCallsError, InvalidOrderError
from lastother.lineups import check_lineup, colors_in_order, first_other_color


def round_period(lineup, calls):
    """Return a tuple: after how many rounds the lineup begins to repeat, and how often it does."""
    check_round(lineup, calls)
    known, first = lineups_by_round(lineup, calls)
    return first, len(known) - first


def lineup_after_rounds(lineup, calls, rounds):
    """Return the lineup after this number of rounds."""
    check_round(lineup, calls)
    check_number(rounds, 0, LARGEST_NUMBER)
    known, first = lineups_by_round(lineup, calls)
    if rounds < first:
        return known[rounds]
    return known[first + (rounds - first) % (len(known) - first)]


def rounds_until_one_color(lineup, calls):
    """Return the smallest number of rounds after which all people have one color, or None."""
    check_round(lineup, calls)
    known, _ = lineups_by_round(lineup, calls)
    for rounds, current in enumerate(known):
        if first_other_color(current, current[0][1]) is None:
            return rounds
    return None


def colors_left_by(lineup, order):
    """Return the colors, in ascending order, that occur after everybody was called once in this order."""
    check_lineup(lineup)
    check_order(lineup, order)
    return "".join(sorted(colors_in_order(lineup_after(lineup, order))))


def lineups_by_round(lineup, calls):
    """Return a tuple: the lineups after 0, 1, 2 .. rounds until one returns, and the place of that one."""
    known = []
    current = list(lineup)
    while current not in known:
        known.append(current)
        current = lineup_after(current, calls)
    return known, known.index(current)


def check_round(lineup, calls):
    """Raise InvalidLineupError or InvalidCallsError if the calls are no round for the lineup."""
    check_lineup(lineup)
    check_calls(lineup, calls)
    if not calls:
        raise InvalidCallsError(0)


def check_order(lineup, value):
    """Raise InvalidOrderError if the value is not a list of all persons, each exactly once."""
    if not is_order(lineup, value):
        raise InvalidOrderError("not an order of all persons")


def is_order(lineup, value):
    """Return whether the value is a list of all persons, each exactly once."""
    if type(value) is not list or not all([is_person(lineup, item) for item in value]):
        return False
    return sorted(value) == list(range(len(lineup)))

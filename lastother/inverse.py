"""Reversing a call: which lineups can stand before a given one, and how many lineups have one before."""

from math import factorial

from lastother.basics import check_number, is_color, is_integer_between
from lastother.errors import InvalidColorError, InvalidPositionError
from lastother.lineups import MOST_PEOPLE, check_lineup, first_other_color

LETTERS = "abcdefghijklmnopqrstuvwxyz"


def can_follow_call(lineup):
    """Return whether some lineup of the same people becomes this lineup by one call."""
    check_lineup(lineup)
    return old_colors(lineup) != ""


def possible_old_colors(lineup):
    """Return the colors, in ascending order, that the front person can have had before a call."""
    check_lineup(lineup)
    return old_colors(lineup)


def lineup_before(lineup, position, color):
    """Return the lineup before a call of the front person, who had this position and color."""
    check_lineup(lineup)
    if not is_integer_between(position, 0, len(lineup) - 1):
        raise InvalidPositionError("not a position of the lineup")
    if not is_color(color) or color not in old_colors(lineup):
        raise InvalidColorError("not a color that the front person can have had")
    before = lineup[1:]
    before.insert(position, (lineup[0][0], color))
    return before


def count_lineups(people, letters):
    """Return the number of lineups of this many people with colors out of this many letters."""
    check_counts(people, letters)
    return factorial(people) * count_rows(people, letters)


def count_lineups_after_call(people, letters):
    """Return how many of these lineups can follow a call."""
    check_counts(people, letters)
    if people == 1:
        return letters
    # The front person has the first color of the others or, if they have several, the second one.
    rows = count_rows(people - 1, letters)
    return factorial(people) * (rows + (rows - letters))


def old_colors(lineup):
    """Return the colors from which a call of the front person leads to its color; no check."""
    color = lineup[0][1]
    others = lineup[1:]
    if not others:
        return color
    first = others[0][1]
    second = first_other_color(others, first)
    if color == second:
        return first
    if color != first:
        return ""
    # With any other color the person takes the first one; with the first one it keeps it only
    # where nobody has another one.
    return "".join([letter for letter in LETTERS if letter != first or second is None])


def count_rows(length, letters):
    """Return the number of rows of this many colors out of this many letters."""
    rows = 1
    for _ in range(length):
        rows *= letters
    return rows


def check_counts(people, letters):
    """Raise InvalidNumberError if the number of people or of letters is out of its range."""
    check_number(people, 1, MOST_PEOPLE)
    check_number(letters, 1, len(LETTERS))

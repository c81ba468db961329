"""Lineups: what they are, and questions about their colors."""

from lastother.basics import is_color, is_integer, runs_of
from lastother.errors import InvalidColorError, InvalidLineupError

MOST_PEOPLE = 60


def is_lineup(value):
    """Return whether the value is a lineup; any value is accepted."""
    if type(value) is not list or not 1 <= len(value) <= MOST_PEOPLE:
        return False
    for item in value:
        if not is_colored_integer(item):
            return False
    return sorted([person for person, _ in value]) == list(range(len(value)))


def front_color(lineup):
    """Return the color of the front person."""
    check_lineup(lineup)
    return lineup[0][1]


def second_color(lineup):
    """Return the color of the first person who has not the front color, or None."""
    check_lineup(lineup)
    return first_other_color(lineup, lineup[0][1])


def color_runs(lineup):
    """Return the maximal runs of equal colors, from the front, as tuples (color, length)."""
    check_lineup(lineup)
    return runs_of([color for _, color in lineup])


def colors_in_order(lineup):
    """Return every color that occurs, once each, in the order of their first persons."""
    check_lineup(lineup)
    found = ""
    for _, color in lineup:
        if color not in found:
            found += color
    return found


def count_of(lineup, color):
    """Return how many people have the color."""
    check_lineup(lineup)
    check_color(color)
    return len([person for person, worn in lineup if worn == color])


def people_ahead_of(lineup, color):
    """Return how many people stand in front of the first person with the color, or None."""
    check_lineup(lineup)
    check_color(color)
    for position, (_, worn) in enumerate(lineup):
        if worn == color:
            return position
    return None


def check_lineup(value):
    """Raise InvalidLineupError if the value is not a lineup."""
    if not is_lineup(value):
        raise InvalidLineupError("not a lineup")


def check_color(value):
    """Raise InvalidColorError if the value is not a color."""
    if not is_color(value):
        raise InvalidColorError("not a color")


def is_colored_integer(value):
    """Return whether the value is a tuple of an integer and a color."""
    return type(value) is tuple and len(value) == 2 and is_integer(value[0]) and is_color(value[1])


def first_other_color(lineup, color):
    """Return the first color, from the front, that differs from the given one, or None."""
    for _, worn in lineup:
        if worn != color:
            return worn
    return None


def colors_by_person(lineup):
    """Return a list of the colors, indexed by person."""
    colors = [""] * len(lineup)
    for person, color in lineup:
        colors[person] = color
    return colors

"""Color sets: what they are, and the people of a lineup who have or lack a color of them."""

from lastother.basics import is_color
from lastother.errors import InvalidColorsError


def is_color_set(value):
    """Return whether the value is a string of different letters from a to z, in ascending order."""
    if type(value) is not str or value == "":
        return False
    return all([is_color(letter) for letter in value]) and list(value) == sorted(set(value))


def check_colors(value):
    """Raise InvalidColorsError if the value is not a color set."""
    if not is_color_set(value):
        raise InvalidColorsError("not a color set")


def foremost_color(lineup, colors):
    """Return the color of the first person who has a color of the set, or None."""
    for _, worn in lineup:
        if worn in colors:
            return worn
    return None


def people_outside(lineup, colors):
    """Return the persons, from the front, whose color is not in the set."""
    return [person for person, worn in lineup if worn not in colors]

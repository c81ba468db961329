"""Certificates: chains show that some calls are enough, bounds that no fewer are."""

from lastother.basics import is_color, is_integer
from lastother.calls import apply_call, colors_taken_by_each
from lastother.chains import first_places, greatest_values, most_allowed, steps_of_chain
from lastother.colorsets import check_colors, foremost_color, people_outside
from lastother.errors import InvalidBoundError, InvalidChainError
from lastother.lineups import check_lineup


def is_chain(lineup, colors, value):
    """Return whether the value is a chain for the lineup and the color set; any value is accepted."""
    check_lineup(lineup)
    check_colors(colors)
    goal = foremost_color(lineup, colors)
    if goal is None or type(value) is not list:
        return False
    places = first_places(lineup)
    if not all([is_color(item) and item in places for item in value]):
        return False
    # Ascending places up to the goal rule out repeated colors and colors of the set, and
    # a front color that is in the set is the goal itself.
    way = [places[color] for color in value + [goal]]
    return way[0] == 0 and all([before < after for before, after in zip(way, way[1:])])


def chain_cost(lineup, colors, chain):
    """Return the cost of the chain."""
    check_chain(lineup, colors, chain)
    return sum([len(people) for people, _ in steps_of_chain(lineup, colors, chain)])


def calls_for_chain(lineup, colors, chain):
    """Return the call list that follows the chain step by step."""
    check_chain(lineup, colors, chain)
    current = list(lineup)
    calls = []
    for people, wanted in steps_of_chain(lineup, colors, chain):
        waiting = list(people)
        while waiting:
            person = smallest_who_takes(current, waiting, wanted)
            current, _ = apply_call(current, person)
            waiting.remove(person)
            calls.append(person)
    return calls


def is_bound(lineup, value):
    """Return whether the value is a bound for the lineup; any value is accepted."""
    check_lineup(lineup)
    places = first_places(lineup)
    if type(value) is not dict or len(value) != len(places):
        return False
    # The keys first: only a dict whose keys are all colors is safe to be asked for a color.
    if not all([is_color(key) and key in places for key in value]):
        return False
    if not all([is_integer(value[color]) and value[color] >= 0 for color in value]):
        return False
    return all([value[color] <= most_allowed(lineup, value, color) for color in value])


def greatest_bound(lineup):
    """Return the bound in which every value is at least as great as in any other bound."""
    check_lineup(lineup)
    return greatest_values(lineup)


def bound_value(lineup, colors, bound):
    """Return the number of calls that the bound shows to be needed for the color set, or None."""
    check_lineup(lineup)
    check_colors(colors)
    check_bound(lineup, bound)
    goal = foremost_color(lineup, colors)
    if goal is None:
        return None
    return len(people_outside(lineup, colors)) + bound[goal]


def check_chain(lineup, colors, value):
    """Raise the error of the lineup or of the color set, or InvalidChainError if it is not a chain."""
    if not is_chain(lineup, colors, value):
        raise InvalidChainError("not a chain")


def check_bound(lineup, value):
    """Raise InvalidBoundError if the value is not a bound for the lineup."""
    if not is_bound(lineup, value):
        raise InvalidBoundError("not a bound")


def smallest_who_takes(lineup, people, colors):
    """Return the smallest of the people whose call takes one of the colors."""
    taken = colors_taken_by_each(lineup)
    return min([person for person in people if taken[person] is not None and taken[person] in colors])

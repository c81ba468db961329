"""Fewest calls: how soon only given colors are left, or a color can be taken."""

from lastother.chains import first_places, greatest_values, people_in_the_way
from lastother.colorsets import check_colors, foremost_color, people_outside
from lastother.lineups import check_color, check_lineup


def fewest_calls(lineup, colors):
    """Return the fewest calls after which everybody has a color of the set, or None."""
    check_lineup(lineup)
    check_colors(colors)
    goal = foremost_color(lineup, colors)
    if goal is None:
        return None
    return greatest_values(lineup)[goal] + len(people_outside(lineup, colors))


def fewest_calls_to_one_color(lineup):
    """Return the fewest calls after which all people have one color, whichever it is."""
    check_lineup(lineup)
    values = greatest_values(lineup)
    return min([values[color] + len(people_outside(lineup, color)) for color in values])


def fewest_calls_to_take(lineup, color):
    """Return the fewest calls of which the last one takes the color, or None."""
    check_lineup(lineup)
    check_color(color)
    values = greatest_values(lineup)
    # A call takes a color only if somebody has it and the called person has another one.
    if color not in values or len(values) == 1:
        return None
    return values[color] + 1


def best_chain(lineup, colors):
    """Return the chain of smallest cost, of several the smallest in list order, or None."""
    check_lineup(lineup)
    check_colors(colors)
    goal = foremost_color(lineup, colors)
    if goal is None:
        return None
    return best_way(lineup, goal)


def best_way(lineup, goal):
    """Return the colors on the cheapest way from the front color to the goal, without the goal."""
    places = first_places(lineup)
    passed = [color for color in places if places[color] < places[goal]]
    # From the goal to the front: the smallest ending stays the smallest behind any color. A
    # beginning that is smaller only because it is shorter can lead to a greater chain.
    ways = [(0, goal, [])]
    for color in reversed(passed):
        options = []
        for cost, following, ending in ways:
            options.append((cost + len(people_in_the_way(lineup, color, following)), [color] + ending))
        best_cost, best_ending = min(options)
        ways.append((best_cost, color, best_ending))
    return ways[-1][2]

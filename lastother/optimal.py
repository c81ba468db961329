"""Optimal call lists: how many there are, each by its index, and how single calls lead to them."""

from lastother.basics import LARGEST_NUMBER, check_number
from lastother.calls import apply_call, is_person, lineup_after
from lastother.colorsets import check_colors, people_outside
from lastother.fewest import fewest_calls
from lastother.lineups import check_lineup
from lastother.openings import optimal_by_first_call


def count_optimal(lineup, colors):
    """Return the number of optimal call lists."""
    check_lineup(lineup)
    check_colors(colors)
    if not people_outside(lineup, colors):
        return 1
    return sum(optimal_by_first_call(lineup, colors))


def nth_optimal(lineup, colors, index):
    """Return the optimal call list with this index in ascending list order, or None."""
    check_lineup(lineup)
    check_colors(colors)
    check_number(index, 0, LARGEST_NUMBER)
    if index >= count_optimal(lineup, colors):
        return None
    current = list(lineup)
    calls = []
    left = index
    while people_outside(current, colors):
        numbers = optimal_by_first_call(current, colors)
        person = 0
        while left >= numbers[person]:
            left -= numbers[person]
            person += 1
        calls.append(person)
        current, _ = apply_call(current, person)
    return calls


def is_optimal(lineup, colors, value):
    """Return whether the value is an optimal call list; any value is accepted."""
    fewest = fewest_calls(lineup, colors)
    if fewest is None or type(value) is not list or len(value) != fewest:
        return False
    if not all([is_person(lineup, item) for item in value]):
        return False
    return not people_outside(lineup_after(lineup, value), colors)


def improving_people(lineup, colors):
    """Return the persons after whose call one call less than before is enough."""
    fewest = fewest_calls(lineup, colors)
    if fewest is None:
        return []
    return [person for person, calls in enumerate(fewest_after_each(lineup, colors)) if calls == fewest - 1]


def fewest_after_each(lineup, colors):
    """Return a list, indexed by person, of the fewest calls after a call of this person, or None."""
    check_lineup(lineup)
    check_colors(colors)
    return [fewest_calls(apply_call(lineup, person)[0], colors) for person in range(len(lineup))]

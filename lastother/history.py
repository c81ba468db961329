"""History: who got which color by which call, and what would change without a call."""

from lastother.basics import check_number
from lastother.calls import check_calls, colors_taken, lineup_after
from lastother.lineups import check_lineup, colors_by_person


def color_history(lineup, calls):
    """Return a list, indexed by person, of lists of tuples (k, color): since call k it has the color."""
    taken = colors_taken(lineup, calls)
    history = [[(0, color)] for color in colors_by_person(lineup)]
    for number, (person, color) in enumerate(zip(calls, taken), start=1):
        if color is not None:
            history[person].append((number, color))
    return history


def changed_without(lineup, calls, number):
    """Return the persons who have another color at the end if the call with this number is left out."""
    check_lineup(lineup)
    check_calls(lineup, calls)
    check_number(number, 1, len(calls))
    before = colors_after(lineup, calls)
    without = colors_after(lineup, calls_without(calls, number))
    return [person for person, color in enumerate(before) if without[person] != color]


def redundant_calls(lineup, calls):
    """Return the numbers of the calls that can be left out, each alone, without any other color."""
    before = colors_after(lineup, calls)
    numbers = range(1, len(calls) + 1)
    return [number for number in numbers if colors_after(lineup, calls_without(calls, number)) == before]


def can_swap_calls(lineup, calls, number):
    """Return whether everybody has the same color if this call and the next one are swapped."""
    check_lineup(lineup)
    check_calls(lineup, calls)
    check_number(number, 1, len(calls) - 1)
    swapped = list(calls)
    swapped[number - 1], swapped[number] = calls[number], calls[number - 1]
    return colors_after(lineup, swapped) == colors_after(lineup, calls)


def colors_after(lineup, calls):
    """Return a list of the colors after all calls, indexed by person."""
    return colors_by_person(lineup_after(lineup, calls))


def calls_without(calls, number):
    """Return the call list without the call with this number."""
    return calls[:number - 1] + calls[number:]

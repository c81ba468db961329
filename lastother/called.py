"""Called people: the colors that the people who were called at least once have."""

from lastother.calls import apply_call, check_calls, lineup_after
from lastother.lineups import check_lineup


def called_colors(lineup, calls):
    """Return the colors of the called people, in ascending order, as one string for each moment."""
    check_lineup(lineup)
    check_calls(lineup, calls)
    texts = []
    for moment, current in enumerate(lineups_at_moments(lineup, calls)):
        called = calls[:moment]
        texts.append("".join(sorted({color for person, color in current if person in called})))
    return texts


def single_color_moments(lineup, calls):
    """Return the moments from 1 on at which all called people have one color."""
    return [moment for moment, text in enumerate(called_colors(lineup, calls)) if len(text) == 1]


def color_arrivals(lineup, calls):
    """Return a tuple (k, color) for each call that brings a color which no called person had before it."""
    texts = called_colors(lineup, calls)
    arrivals = []
    for moment, current in enumerate(lineups_at_moments(lineup, calls)):
        # The person called last stands at the front.
        color = current[0][1]
        if moment > 0 and color not in texts[moment - 1]:
            arrivals.append((moment, color))
    return arrivals


def called_sides(lineup, calls):
    """Return the called people with the front color after all calls, and the other called people."""
    after = lineup_after(lineup, calls)
    front = after[0][1]
    called = [(person, color) for person, color in sorted(after) if person in calls]
    alike = [person for person, color in called if color == front]
    different = [person for person, color in called if color != front]
    return alike, different


def lineups_at_moments(lineup, calls):
    """Return the lineup at each moment."""
    current = list(lineup)
    moments = [current]
    for person in calls:
        current, _ = apply_call(current, person)
        moments.append(current)
    return moments

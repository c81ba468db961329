"""Ways from color to color along a lineup, which fewest calls and certificates share."""

from lastother.colorsets import foremost_color, people_outside


def first_places(lineup):
    """Return a dict from each color, in the order of the first persons, to the place of the first one."""
    places = {}
    for place, (_, worn) in enumerate(lineup):
        if worn not in places:
            places[worn] = place
    return places


def people_in_the_way(lineup, color, following):
    """Return the persons in front of the first one with the following color who lack the color."""
    people = []
    for person, worn in lineup:
        if worn == following:
            break
        if worn != color:
            people.append(person)
    return people


def steps_of_chain(lineup, colors, chain):
    """Return a tuple for each step of the chain, the last one too: its people, the colors they take."""
    goal = foremost_color(lineup, colors)
    steps = []
    for color, following in zip(chain, chain[1:] + [goal]):
        steps.append((people_in_the_way(lineup, color, following), color))
    steps.append((people_outside(lineup, colors), colors))
    return steps


def most_allowed(lineup, values, color):
    """Return the most that a bound can have for the color, by its values for the colors in front."""
    limits = []
    for other in first_places(lineup):
        if other == color:
            break
        limits.append(values[other] + len(people_in_the_way(lineup, other, color)))
    # No color stands in front of the front color, whose value is 0.
    return min(limits, default=0)


def greatest_values(lineup):
    """Return a dict from each color to the cost of the cheapest way to it from the front color.

    These are also the greatest values that a bound can have.
    """
    values = {}
    for color in first_places(lineup):
        values[color] = most_allowed(lineup, values, color)
    return values

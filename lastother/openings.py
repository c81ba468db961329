"""With which calls an optimal call list can begin, and in how many ways it goes on.

An optimal call list follows a chain of smallest cost, one step after the other: a call takes the next
color of the chain only when everybody in front of the first person with it has the color before it.
The calls of the first step may come in any order. Each later step begins with a person who has the
color before, and its other calls may come in any order, too.
"""

from math import factorial

from lastother.chains import first_places, people_in_the_way
from lastother.colorsets import foremost_color, people_outside


def optimal_by_first_call(lineup, colors):
    """Return a list, indexed by person, of the numbers of optimal call lists that begin with its call."""
    numbers = [0] * len(lineup)
    for people, ways in openings(lineup, colors):
        for person in people:
            numbers[person] += ways
    return numbers


def openings(lineup, colors):
    """Return tuples (people, ways): each of these people can be called first, with so many ways to go on.

    A person may stand in several of the tuples, and the ways of all of them count for it.
    """
    goal = foremost_color(lineup, colors)
    if goal is None:
        return []
    steps = best_steps(lineup, colors, goal)
    ways = ways_to_go_on(lineup, steps, goal)
    front = lineup[0][1]
    found = []
    for following, people in steps[front]:
        if people:
            found.append((people, factorial(len(people) - 1) * ways[(front, following)]))
        elif following is not None:
            # Nobody is in the way to the following color: the first call belongs to its step.
            found.extend(openings_of_step(lineup, steps, ways, following))
    return found


def openings_of_step(lineup, steps, ways, color):
    """Return the openings with a step of the color, when everybody in front of it has the front color."""
    alike = [person for person, worn in lineup if worn == lineup[0][1]]
    found = []
    for following, people in steps[color]:
        able = [person for person in people if person in alike]
        found.append((able, factorial(len(people) - 1) * ways[(color, following)]))
    return found


def best_steps(lineup, colors, goal):
    """Return a dict, from the goal to the front color, of the steps with which the best chains go on.

    A step is a tuple of the following color, which is None behind the goal, and the people of the step.
    """
    places = first_places(lineup)
    passed = [color for color in places if places[color] < places[goal]]
    steps = {goal: [(None, people_outside(lineup, colors))]}
    costs = {goal: 0}
    for color in reversed(passed):
        options = [(following, people_in_the_way(lineup, color, following)) for following in costs]
        best = min([costs[following] + len(people) for following, people in options])
        steps[color] = [(following, people) for following, people in options if costs[following] + len(people) == best]
        costs[color] = best
    return steps


def ways_to_go_on(lineup, steps, goal):
    """Return a dict from tuples (before, color) to the number of ways to go on with a step of the color.

    They count from the moment at which everybody in front of the first person with the color has the
    color before.
    """
    places = first_places(lineup)
    ways = {(goal, None): 1}
    for color in steps:
        for before in places:
            if places[before] < places[color]:
                ways[(before, color)] = sum([
                    people_who_can_begin(lineup, before, color, following)
                    * factorial(len(people) - 1) * ways[(color, following)]
                    for following, people in steps[color]
                ])
    return ways


def people_who_can_begin(lineup, before, color, following):
    """Return how many people of the step have the color before at its start."""
    row = "".join([worn for _, worn in lineup])
    place = row.find(color)
    end = len(row) if following is None else row.find(following)
    # All in front of the color have the color before by then, whatever they had at first.
    return place + row.count(before, place, end)

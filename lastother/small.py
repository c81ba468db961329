"""Small lineups: which lineups are reachable from one of up to four people, and by which calls."""

from lastother.calls import apply_call
from lastother.errors import TooManyPeopleError
from lastother.lineups import check_lineup

SMALL = 4


def count_reachable(lineup):
    """Return the number of lineups that are reachable from the lineup, itself among them."""
    check_small(lineup)
    return len(shortest_calls_to_all(lineup))


def fewest_calls_between(lineup, target):
    """Return the smallest length of a call list that turns the lineup into the target, or None."""
    calls = shortest_calls_between(lineup, target)
    return None if calls is None else len(calls)


def shortest_calls_between(lineup, target):
    """Return the smallest, in list order, of the shortest call lists to the target, or None."""
    check_lineup(lineup)
    check_lineup(target)
    check_people(lineup)
    check_people(target)
    return shortest_calls_to_all(lineup).get(tuple(target))


def farthest_reachable(lineup):
    """Return a tuple: the most calls that a reachable lineup needs, and how many need so many."""
    check_small(lineup)
    ways = shortest_calls_to_all(lineup)
    lengths = [len(ways[target]) for target in ways]
    return max(lengths), lengths.count(max(lengths))


def shortest_calls_to_all(lineup):
    """Return a dict from each reachable lineup, as a tuple, to the smallest of the shortest call lists."""
    start = tuple(lineup)
    ways = {start: []}
    newest = [start]
    # The newest lineups stand in the list order of their call lists, and the persons are tried in
    # ascending order: the first way that is found to a lineup is the smallest one.
    while newest:
        found = []
        for current in newest:
            for person in range(len(lineup)):
                after = tuple(apply_call(current, person)[0])
                if after not in ways:
                    ways[after] = ways[current] + [person]
                    found.append(after)
        newest = found
    return ways


def check_small(lineup):
    """Raise InvalidLineupError or TooManyPeopleError if it is not a lineup of up to four people."""
    check_lineup(lineup)
    check_people(lineup)


def check_people(lineup):
    """Raise TooManyPeopleError if the lineup has more than four people."""
    if len(lineup) > SMALL:
        raise TooManyPeopleError(len(lineup))

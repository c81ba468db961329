"""Fewest calls and the call lists with so many, found by a search over all lineups of one size."""

from itertools import permutations, product

from tests.helpers import call_by_hand


class Search:
    """All lineups of this many people with these colors, and the calls between them."""

    def __init__(self, size, letters):
        self.lineups = self.all_lineups(size, letters)
        self.befores = {lineup: [] for lineup in self.lineups}
        self.afters = {lineup: [] for lineup in self.lineups}
        self.takings = {lineup: [] for lineup in self.lineups}
        for lineup in self.lineups:
            for person in range(size):
                after, taken = call_by_hand(lineup, person)
                self.afters[lineup].append(self.known(after))
                self.befores[self.known(after)].append(lineup)
                self.takings[lineup].append(taken)

    def all_lineups(self, size, letters):
        orders = list(permutations(range(size)))
        return [tuple(zip(order, colors)) for order in orders for colors in product(letters, repeat=size)]

    def known(self, lineup):
        return tuple(lineup)

    def calls_to(self, goals):
        """The fewest calls to one of the goals, from each lineup from which there is a way."""
        calls = {lineup: 0 for lineup in goals}
        waiting = list(calls)
        for lineup in waiting:
            for before in self.befores[lineup]:
                if before not in calls:
                    calls[before] = calls[lineup] + 1
                    waiting.append(before)
        return calls

    def calls_to_colors(self, colors):
        """The fewest calls after which everybody has one of the colors."""
        return self.calls_to([
            lineup for lineup in self.lineups if all(color in colors for _, color in lineup)
        ])

    def calls_to_one_color(self):
        """The fewest calls after which all people have one color."""
        return self.calls_to([
            lineup for lineup in self.lineups if len({color for _, color in lineup}) == 1
        ])

    def calls_to_take(self, color):
        """The fewest calls of which the last one takes the color."""
        goals = [lineup for lineup in self.lineups if color in self.takings[lineup]]
        return {lineup: calls + 1 for lineup, calls in self.calls_to(goals).items()}

    def optimal_lists(self, colors):
        """The call lists of the fewest calls, in ascending list order, from each lineup that has some."""
        calls = self.calls_to_colors(colors)
        lists = {}
        for lineup in calls:
            # The lineups come with ascending numbers of calls.
            lists[lineup] = [] if calls[lineup] else [[]]
            for person, after in enumerate(self.afters[lineup]):
                if calls.get(after) == calls[lineup] - 1:
                    lists[lineup].extend([person] + rest for rest in lists[after])
        return lists


class ColorSearch(Search):
    """The same over the orders of colors alone: who the people are does not change the number."""

    def all_lineups(self, size, letters):
        return [tuple(enumerate(colors)) for colors in product(letters, repeat=size)]

    def known(self, lineup):
        return tuple(enumerate(color for _, color in lineup))

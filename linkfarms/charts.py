"""The states of a farm [7] and the steps from one to another one."""

from linkfarms.errors import TooMany
from linkfarms.tables import ROOT
from linkfarms.ways import ways_of, word_of

MOST_STATES = 500


def chart_of(packages):
    """The chart of a farm; raises TooMany(500)."""
    return Chart(ways_of(packages))


def path_back(origins, at):
    """The path to a point; origins tells the point before each one and the name between, 0 is the root."""
    parts = []
    point = at
    while point != 0:
        point, name = origins[point]
        parts.append(name)
    return "/".join(list(reversed(parts)))


class Chart:
    """The states of a farm, numbered in the order of the least paths that lead to them; the root has 0.

    For each state: states has its places, views what the farm has there, words what it shows, moves the dict from the
    names that go on to a path that shows something to the number of its state.
    """

    def __init__(self, ways):
        numbers = {ROOT: 0}
        self.views = [ways.view(ROOT)]
        self.moves = []
        self.origins = [None]
        self.states = [ROOT]
        while len(self.moves) < len(self.states):
            at = len(self.moves)
            reached = ways.next_states(self.states[at])
            for name in reached:
                state = reached[name]
                if state not in numbers:
                    numbers[state] = len(self.states)
                    self.states.append(state)
                    self.views.append(ways.view(state))
                    self.origins.append((at, name))
            if len(self.states) > MOST_STATES:
                raise TooMany(MOST_STATES)
            self.moves.append({name: numbers[reached[name]] for name in reached})
        self.words = [word_of(view) for view in self.views]

    def least_path(self, at):
        """The least path that leads to a state."""
        return path_back(self.origins, at)


def crowd_of(moves):
    """A dict from the states that a step leads to, to the number of names that lead there."""
    many = {}
    for name in moves:
        many[moves[name]] = many.get(moves[name], 0) + 1
    return many


def counts_after(crowds, counts):
    """A dict from states to the numbers of paths that lead there with one name more."""
    after = {}
    for at in counts:
        for to in crowds[at]:
            after[to] = after.get(to, 0) + counts[at] * crowds[at][to]
    return after

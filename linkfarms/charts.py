"""The states of a farm [7] and the steps from one to another one."""

from linkfarms.errors import TooMany
from linkfarms.tables import ROOT
from linkfarms.ways import FOLDER_VIEW, ways_of, word_of

MOST_STATES = 500


def chart_of(packages):
    """The chart of a farm; raises TooMany(500)."""
    ways = ways_of(packages)
    if ways.chart is None:
        ways.chart = Chart(ways)
    return ways.chart


def path_back(origins, at):
    """The path to a point; origins tells the point before each one and the name between, 0 is the root."""
    parts = []
    point = at
    while point != 0:
        point, name = origins[point]
        parts.append(name)
    return "/".join(list(reversed(parts)))


class Chart:
    """The states of a farm, numbered in the order of the least paths that lead to them; the root has 0.

    For each state: states has its places, views what the farm has there, words what it shows, moves the dict from the
    names that go on to a path that shows something to the number of its state. tally is for the numbers of paths, once
    they are asked for.
    """

    def __init__(self, ways):
        self.states = [ROOT]
        self.origins = [None]
        self.moves = []
        self.follow_all(ways)
        # Each state shows something, so those without a file show a folder.
        self.views = [ways.view(state) if state & ways.file_places else FOLDER_VIEW for state in self.states]
        self.words = [word_of(view) for view in self.views]
        self.tally = None

    def follow_all(self, ways):
        """Find all states, those with the least paths first; raises TooMany(500)."""
        states = self.states
        numbers = {ROOT: 0}
        while len(self.moves) < len(states):
            at = len(self.moves)
            reached = ways.names_after(states[at])
            row = {}
            for name in reached:
                state = reached[name]
                if state & ways.shows:
                    if state not in numbers:
                        numbers[state] = len(states)
                        states.append(state)
                        self.origins.append((at, name))
                    row[name] = numbers[state]
            if len(states) > MOST_STATES:
                raise TooMany(MOST_STATES)
            self.moves.append(row)

    def least_path(self, at):
        """The least path that leads to a state."""
        return path_back(self.origins, at)

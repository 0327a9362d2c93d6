"""The states of a farm [7] and the steps from one to another one."""

from linkfarms.errors import TooMany
from linkfarms.tables import ROOT
from linkfarms.ways import FOLDER_VIEW, ways_of, word_of

MOST_STATES = 500


def chart_of(packages):
    """The chart of a farm; raises TooMany(500)."""
    ways = ways_of(packages)
    if ways.chart is None:
        ways.chart = Chart(ways)
    return ways.chart


def path_back(origins, at):
    """The path to a point; origins tells the point before each one and the name between, 0 is the root."""
    parts = []
    point = at
    while point != 0:
        point, name = origins[point]
        parts.append(name)
    return "/".join(list(reversed(parts)))


class Chart:
    """The states of a farm, numbered in the order of the least paths that lead to them; the root has 0.

    For each state: states has its places, views what the farm has there, words what it shows, moves the dict from the
    names that go on to a path that shows something to the number of its state. tally and merged are for what is worked
    out from the chart, once it is asked for.
    """

    def __init__(self, ways):
        self.numbers = {ROOT: 0}
        self.states = [ROOT]
        self.origins = [None]
        self.moves = []
        while len(self.moves) < len(self.states):
            self.follow(ways.next_states(self.states[len(self.moves)]))
            if len(self.states) > MOST_STATES:
                raise TooMany(MOST_STATES)
        # Each state shows something, so those without a file show a folder.
        self.views = [ways.view(state) if state & ways.file_places else FOLDER_VIEW for state in self.states]
        self.words = [word_of(view) for view in self.views]
        self.tally = None
        self.merged = None

    def follow(self, reached):
        """Number the states to which the next state leads."""
        numbers = self.numbers
        row = {}
        for name in reached:
            state = reached[name]
            if state not in numbers:
                numbers[state] = len(self.states)
                self.states.append(state)
                self.origins.append((len(self.moves), name))
            row[name] = numbers[state]
        self.moves.append(row)

    def least_path(self, at):
        """The least path that leads to a state."""
        return path_back(self.origins, at)

"""The paths that lead to one place, perhaps one at which nothing is yet [6, 15]."""

from linkfarms.charts import Chart, counts_after, crowd_of, path_back
from linkfarms.merging import Merged
from linkfarms.paths import beginnings, joined
from linkfarms.tables import ROOT, indexes
from linkfarms.ways import Ways, number_in


def least_path_to(entries, place):
    """The least path that leads to a place by the references among entries, not to the root.

    The farm may have too many states, so the places are followed one by one, each from the least path that leads
    to it.
    """
    ways = Ways(entries, [place])
    wanted = 1 << number_in(ways.inside, place)
    groups = [ROOT]
    origins = [None]
    met = ROOT
    at = 0
    while at < len(groups):
        reached = states_after(ways, groups[at])
        for name in sorted(reached):
            fresh = reached[name] & ~met
            if fresh & wanted != 0:
                return joined(path_back(origins, at), name)
            if fresh != 0:
                met = met | fresh
                groups.append(fresh)
                origins.append((at, name))
        at += 1
    return None


def states_after(ways, state):
    """A dict from the names that go on from the places of a state to all places to which they lead."""
    reached = {}
    for at in indexes(state & ways.inner):
        row = ways.steps[at]
        for name in row:
            reached[name] = reached.get(name, 0) | row[name]
    return reached


def count_paths_to(entries, place, length):
    """How many paths with so many names lead to a new file at a place; raises TooMany(500).

    The entries are those without the file, and perhaps without its parents.
    """
    grown = [*entries, *[("", folder, None) for folder in beginnings(place)], ("", place, 0)]
    ways = Ways(grown)
    chart = Chart(ways)
    if length < 0:
        return 0
    wanted = 1 << number_in(ways.inside, place)
    merged = Merged([state & wanted != 0 for state in chart.states], chart.moves)
    crowds = {number: crowd_of(merged.moves[number]) for number in merged.moves}
    counts = {merged.classes[0]: 1}
    for step in range(length):
        counts = counts_after(crowds, counts)
    return sum([counts[number] for number in counts if merged.views[number]])

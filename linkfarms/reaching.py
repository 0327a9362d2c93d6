"""The paths that lead to one place, perhaps one at which nothing is yet [6, 15]."""

from linkfarms.charts import Chart, path_back
from linkfarms.paths import beginnings, joined
from linkfarms.tables import ROOT
from linkfarms.tallies import StateTally
from linkfarms.ways import Ways


def least_path_to(entries, place):
    """The least path that leads to a place by the references among entries, not to the root.

    The farm may have too many states, so the places are followed one by one, each from the least path that leads
    to it.
    """
    ways = Ways(with_file(entries, place))
    wanted = 1 << ways.numbers[place]
    groups = [ROOT]
    origins = [None]
    met = ROOT
    at = 0
    while at < len(groups):
        reached = ways.names_after(groups[at])
        for name in reached:
            fresh = reached[name] & ~met
            if fresh & wanted != 0:
                return joined(path_back(origins, at), name)
            if fresh != 0:
                met = met | fresh
                groups.append(fresh)
                origins.append((at, name))
        at += 1
    return None


def with_file(entries, place):
    """Entries, and a file at a place with its parents; its content does not matter."""
    return [*entries, *[("", folder, None) for folder in beginnings(place)], ("", place, 0)]


def count_paths_to(entries, place, length):
    """How many paths with so many names lead to a new file at a place; raises TooMany(500)."""
    ways = Ways(with_file(entries, place))
    chart = Chart(ways)
    wanted = 1 << ways.numbers[place]
    return StateTally([state & wanted != 0 for state in chart.states], chart.moves).count_flagged(length, True)

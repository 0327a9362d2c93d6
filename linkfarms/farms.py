"""What a farm shows at its paths [6], and its clashes and states [7]."""

from linkfarms.charts import chart_of
from linkfarms.clashes import least_clash
from linkfarms.paths import check_path
from linkfarms.ways import ways_of, word_of


def shown(packages, path):
    """What a path shows: "nothing", "file", "folder" or "clash"."""
    return word_of(has(packages, path))


def has(packages, path):
    """The tuple (is_folder, contents) of what a farm has at a path, the contents ascending."""
    check_path(path)
    ways = ways_of(packages)
    return ways.view(ways.read(path))


def sources(packages, path):
    """The list of the sources of a path, in path order."""
    check_path(path)
    ways = ways_of(packages)
    return ways.sources_in(ways.read(path))


def names(packages, path):
    """The ascending list of the names with which a path goes on to a path that shows something."""
    check_path(path)
    ways = ways_of(packages)
    return ways.names_shown(ways.read(path))


def clash(packages):
    """The least path that shows "clash", or None."""
    return least_clash(ways_of(packages))


def states(packages):
    """The number of states of a farm; raises TooMany(500)."""
    return len(chart_of(packages).views)

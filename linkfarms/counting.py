"""Counting, walking and finding the paths of a farm [8]."""

from linkfarms.charts import chart_of
from linkfarms.tallies import StateTally
from linkfarms.tours import Tour, paths_ahead

LONGEST_WALK = 200


def count(packages, length, *, kind="file"):
    """How many paths with so many names show this kind: "file", "folder" or "clash"; raises TooMany(500)."""
    chart = chart_of(packages)
    if chart.tally is None:
        chart.tally = StateTally(chart.words, chart.moves)
    return chart.tally.count_flagged(length, kind)


def walk(packages, *, kind=None):
    """A generator of the tuples (path, what it shows) of all paths that show something, or that show this kind.

    They come in path order, up to those of 200 names; raises TooMany(500) when the first one is asked for.
    """
    chart = chart_of(packages)
    tour = Tour(chart.moves, [kind is None or word == kind for word in chart.words])
    for length in range(LONGEST_WALK + 1):
        for path, at in paths_ahead(tour, length):
            yield (path, chart.words[at])
        if not tour.lengthen():
            return


def find(packages, content):
    """The least path at which a farm has a file with this content, or None; raises TooMany(500)."""
    chart = chart_of(packages)
    for at in range(len(chart.views)):
        if content in chart.views[at][1]:
            return chart.least_path(at)
    return None

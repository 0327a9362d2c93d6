"""Where two farms part [8]."""

from linkfarms.charts import chart_of, counts_after, crowd_of, path_back
from linkfarms.merging import Merged
from linkfarms.paths import joined


def parting(one, other):
    """The least path at which two farms part, or None; raises TooMany(500), for one before other."""
    both = Both(one, other)
    pairs = [both.start]
    known = {both.start: True}
    origins = [None]
    at = 0
    while at < len(pairs):
        reached = both.pairs_after(pairs[at])
        for name in reached:
            pair = reached[name]
            if both.do_part(pair):
                return joined(path_back(origins, at), name)
            if pair not in known:
                known[pair] = True
                pairs.append(pair)
                origins.append((at, name))
        at += 1
    return None


def count_parting(one, other, length):
    """At how many paths with so many names two farms part; raises TooMany(500), for one before other."""
    both = Both(one, other)
    crowds = {}
    counts = {both.start: 1}
    for step in range(length):
        for pair in counts:
            if pair not in crowds:
                crowds[pair] = crowd_of(both.pairs_after(pair))
        counts = counts_after(crowds, counts)
    return sum([counts[pair] for pair in counts if both.do_part(pair)])


class Both:
    """Two farms side by side. A path leads to a pair of classes of states, with None where a farm shows nothing.

    Beyond a pair of equal classes nothing parts, so it is not followed.
    """

    def __init__(self, one, other):
        first = chart_of(one)
        second = chart_of(other)
        many = len(first.views)
        shifted = [{name: moves[name] + many for name in moves} for moves in second.moves]
        merged = Merged(first.views + second.views, first.moves + shifted)
        self.views = merged.views
        self.moves = merged.moves
        self.start = (merged.classes[0], merged.classes[many])

    def pairs_after(self, pair):
        """A dict from the names, ascending, that lead on to a pair of unequal classes, to this pair."""
        one, other = pair
        left = {} if one is None else self.moves[one]
        right = {} if other is None else self.moves[other]
        reached = {name: (left.get(name), right.get(name)) for name in sorted({**left, **right})}
        return {name: reached[name] for name in reached if reached[name][0] != reached[name][1]}

    def do_part(self, pair):
        """Whether two farms part at the paths that lead to a pair."""
        one, other = pair
        if one is None or other is None:
            return True
        return self.views[one] != self.views[other]

"""Where two farms part [8]."""

from linkfarms.charts import chart_of
from linkfarms.differences import least_difference
from linkfarms.merging import Merged
from linkfarms.notes import tokens_of
from linkfarms.tallies import Tally


def parting(one, other):
    """The least path at which two farms part, or None; raises TooMany(500), for one before other."""
    return least_difference(chart_of(one), chart_of(other))


def count_parting(one, other, length):
    """At how many paths with so many names two farms part; raises TooMany(500), for one before other."""
    if length < 0:
        return 0
    both = both_of(one, other)
    counts = both.counts(length)
    return sum([counts[pair] for pair in counts if both.do_part(pair)])


def both_of(one, other):
    """Two farms side by side; raises TooMany(500), for one before other."""
    first = chart_of(one)
    second = chart_of(other)
    names = sorted(one)
    if len(names) == 0:
        return Both(first, second)
    notes = one[names[0]].notes
    key = (tokens_of(one, names), tokens_of(other, sorted(other)))
    both = notes.recall(key)
    if both is None:
        both = Both(first, second)
        notes.jot(key, both)
    return both


class Both(Tally):
    """Two farms side by side. A path leads to a pair of classes of states, with None where a farm shows nothing.

    Beyond a pair of equal classes nothing parts, so it is not followed.
    """

    def __init__(self, first, second):
        many = len(first.views)
        shifted = [{name: moves[name] + many for name in moves} for moves in second.moves]
        self.merged = Merged(first.views + second.views, first.moves + shifted)
        Tally.__init__(self, (self.merged.classes[0], self.merged.classes[many]))

    def find_after(self, spot):
        """The list of the pairs of unequal classes to which the names lead that go on from a pair."""
        one, other = spot
        left = {} if one is None else self.merged.class_row(one)
        right = {} if other is None else self.merged.class_row(other)
        pairs = [(left.get(name), right.get(name)) for name in {**left, **right}]
        return [pair for pair in pairs if pair[0] != pair[1]]

    def do_part(self, pair):
        """Whether two farms part at the paths that lead to a pair."""
        one, other = pair
        if one is None or other is None:
            return True
        return self.merged.class_view(one) != self.merged.class_view(other)

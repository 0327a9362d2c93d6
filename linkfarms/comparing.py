"""Where two farms part [8]."""

from linkfarms.charts import chart_of
from linkfarms.differences import least_difference
from linkfarms.merging import Merged
from linkfarms.notes import tokens_of
from linkfarms.tallies import Tally

# With more pairs than so many for each state it takes longer to look at all of them than to merge the states.
MANY_PAIRS = 3


def parting(one, other):
    """The least path at which two farms part, or None; raises TooMany(500), for one before other."""
    return least_difference(chart_of(one), chart_of(other))


def count_parting(one, other, length):
    """At how many paths with so many names two farms part; raises TooMany(500), for one before other."""
    if length < 0:
        return 0
    both = both_of(one, other)
    counts = both.counts(length)
    return sum([counts[pair] for pair in counts if both.do_part(pair)])


def both_of(one, other):
    """Two farms side by side; raises TooMany(500), for one before other."""
    first = chart_of(one)
    second = chart_of(other)
    names = sorted(one)
    if len(names) == 0:
        return Both(first, second)
    notes = one[names[0]].notes
    key = (tokens_of(one, names), tokens_of(other, sorted(other)))
    both = notes.recall(key)
    if both is None:
        both = Both(first, second)
        notes.jot(key, both)
    return both


class Both(Tally):
    """Two farms side by side. A path leads to a pair of states, with None where a farm shows nothing.

    Pairs beyond which nothing parts are not followed. If there are few pairs, all of them are looked at first.
    Otherwise the states of both farms are merged: then these pairs are just those of one class.
    """

    def __init__(self, first, second):
        many = len(first.views)
        self.left_views = first.views
        self.right_views = second.views
        self.left_rows = first.moves
        self.right_rows = second.moves
        found = pairs_that_matter(self, MANY_PAIRS * (many + len(second.views)))
        if found is not None:
            Tally.__init__(self, (0, 0))
            self.followers = found
        else:
            shifted = [{name: row[name] + many for name in row} for row in second.moves]
            merged = Merged(first.views + second.views, first.moves + shifted)
            Tally.__init__(self, (merged.classes[0], merged.classes[many]))
            self.left_views = self.right_views = {number: merged.class_view(number) for number in merged.samples}
            self.left_rows = self.right_rows = {number: merged.class_row(number) for number in merged.samples}

    def pairs_after(self, pair):
        """The list of the pairs to which the names lead that go on from a pair."""
        one, other = pair
        left = {} if one is None else self.left_rows[one]
        right = {} if other is None else self.right_rows[other]
        found = [(left[name], right.get(name)) for name in left]
        for name in right:
            if name not in left:
                found.append((None, right[name]))
        return found

    def find_after(self, spot):
        """The list of the pairs of unequal classes to which the names lead that go on from a pair."""
        return [pair for pair in self.pairs_after(spot) if pair[0] != pair[1]]

    def do_part(self, pair):
        """Whether two farms part at the paths that lead to a pair."""
        one, other = pair
        return one is None or other is None or self.left_views[one] != self.right_views[other]


def pairs_that_matter(both, most):
    """A dict from the pairs at or beyond which something parts to the lists of those that come next.

    The pair of the roots is there in any case. None if there are more than so many pairs.
    """
    waiting = [(0, 0)]
    callers = {(0, 0): []}
    nexts = {}
    while len(nexts) < len(waiting):
        pair = waiting[len(nexts)]
        nexts[pair] = both.pairs_after(pair)
        for to in nexts[pair]:
            if to in callers:
                callers[to].append(pair)
            else:
                callers[to] = [pair]
                waiting.append(to)
        if len(waiting) > most:
            return None
    stack = [pair for pair in waiting if both.do_part(pair)]
    good = {pair: True for pair in stack}
    while len(stack) > 0:
        for caller in callers[stack.pop()]:
            if caller not in good:
                good[caller] = True
                stack.append(caller)
    good[(0, 0)] = True
    return {pair: [to for to in nexts[pair] if to in good] for pair in good}

"""What a layout shows at all paths [10], and where it shows something else than a farm or another layout."""

from linkfarms.charts import path_back
from linkfarms.grounds import row_at, view_at
from linkfarms.paths import joined


class Shape:
    """A layout in the form of a chart: views and moves of all spots that paths reach, 0 is the top."""

    def __init__(self, packages, layout):
        numbers = {layout.peak: 0}
        spots = [layout.peak]
        self.views = []
        self.moves = []
        while len(self.moves) < len(spots):
            spot = spots[len(self.moves)]
            row = row_at(packages, layout.rows, spot)
            for name in row:
                if row[name] not in numbers:
                    numbers[row[name]] = len(spots)
                    spots.append(row[name])
            self.views.append(view_at(packages, spot))
            self.moves.append({name: numbers[row[name]] for name in row})


def least_difference(one, other):
    """The least path at which two charts do not have the same, or None.

    Two states that a path reaches are put into one group. Where they are in one group already, by way of others,
    what differs beyond them differs beyond one of those others, too, and at a lesser path.
    """
    many = len(one.views)
    leaders = list(range(many + len(other.views)))
    leaders[many] = 0
    pairs = [(0, 0)]
    origins = [None]
    at = 0
    while at < len(pairs):
        left = one.moves[pairs[at][0]]
        right = other.moves[pairs[at][1]]
        for name in left if list(left) == list(right) else sorted({**left, **right}):
            if name not in left or name not in right or one.views[left[name]] != other.views[right[name]]:
                return joined(path_back(origins, at), name)
            first = leader_of(leaders, left[name])
            second = leader_of(leaders, many + right[name])
            if first != second:
                leaders[first] = second
                pairs.append((left[name], right[name]))
                origins.append((at, name))
        at += 1
    return None


def leader_of(leaders, at):
    """The state that stands for the group of a state."""
    leader = at
    while leaders[leader] != leader:
        # Each second one is passed over from now on, which keeps the ways short.
        leaders[leader] = leaders[leaders[leader]]
        leader = leaders[leader]
    return leader

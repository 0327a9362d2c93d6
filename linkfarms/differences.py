"""Where two farms, or a farm and a layout, do not have the same [8, 10]."""

from linkfarms.charts import path_back
from linkfarms.paths import joined


def least_difference(one, other):
    """The least path at which two charts do not have the same, or None.

    Two states that a path reaches are put into one group. Where they are in one group already, by way of others,
    what differs beyond them differs beyond one of those others, too, and at a lesser path.
    """
    many = len(one.views)
    leaders = list(range(many + len(other.views)))
    leaders[many] = 0
    pairs = [(0, 0)]
    origins = [None]
    at = 0
    while at < len(pairs):
        left = one.moves[pairs[at][0]]
        right = other.moves[pairs[at][1]]
        for name in left if list(left) == list(right) else sorted({**left, **right}):
            if name not in left or name not in right or one.views[left[name]] != other.views[right[name]]:
                return joined(path_back(origins, at), name)
            first = leader_of(leaders, left[name])
            second = leader_of(leaders, many + right[name])
            if first != second:
                leaders[first] = second
                pairs.append((left[name], right[name]))
                origins.append((at, name))
        at += 1
    return None


def leader_of(leaders, at):
    """The state that stands for the group of a state."""
    leader = at
    while leaders[leader] != leader:
        # Each second one is passed over from now on, which keeps the ways short.
        leaders[leader] = leaders[leaders[leader]]
        leader = leaders[leader]
    return leader

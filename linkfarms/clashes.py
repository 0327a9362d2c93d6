"""Where a farm clashes [7], found without its states, which may be too many.

A path clashes if two of the places to which it leads do not go together. So it is enough to follow two places at a
time: a pair of folders is met if some path leads to both of them.
"""

from linkfarms.charts import path_back
from linkfarms.paths import joined
from linkfarms.tables import ROOT, indexes
from linkfarms.ways import word_of


def least_clash(ways):
    """The least path that shows "clash", or None."""
    if ways.clash_note is None:
        ways.clash_note = (search_clash(ways),)
    return ways.clash_note[0]


def search_clash(ways):
    """The least path that shows "clash", or None, looked for anew."""
    search = PairSearch(ways)
    at = 0
    while at < len(search.groups):
        reached = search.reached_from(search.groups[at])
        for name in sorted(reached):
            if any([ways_clash(ways, one | other) for one, other in reached[name]]):
                return joined(path_back(search.origins, at), name)
            search.meet(reached[name], (at, name))
        at += 1
    return None


def ways_clash(ways, state):
    """Whether a path that leads to these places clashes."""
    if state & ways.file_places == 0:
        return False
    return word_of(ways.view(state)) == "clash"


class PairSearch:
    """The pairs of folders that are met, in groups by their least paths, in path order.

    A group is a dict from places to the states of the places that are met with them there for the first time.
    """

    def __init__(self, ways):
        self.inner = ways.inner
        # Many states differ only by places with nothing but references, which lead no further.
        self.steps = [{name: row[name] & ways.shows for name in row} for row in ways.steps]
        self.met = [0 for row in ways.steps]
        self.groups = []
        self.origins = []
        self.meet([(ROOT, ROOT)], None)

    def reached_from(self, group):
        """A dict from names to the pairs of states to which the pairs of a group lead, the keys of a dict."""
        reached = {}
        for one in group:
            for other in indexes(group[one]):
                for name in self.steps[one]:
                    if name in self.steps[other]:
                        pairs = reached.setdefault(name, {})
                        pairs[(self.steps[one][name], self.steps[other][name])] = True
        return reached

    def meet(self, pairs, origin):
        """At one path each place of the one state of a pair is met with each place of the other one."""
        group = {}
        for one, other in pairs:
            for at in indexes(one & self.inner):
                fresh = other & self.inner & ~self.met[at]
                if fresh != 0:
                    self.met[at] = self.met[at] | fresh
                    group[at] = group.get(at, 0) | fresh
        if len(group) > 0:
            self.groups.append(group)
            self.origins.append(origin)

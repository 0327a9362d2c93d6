"""Whether a path leads to another one, at which perhaps no package has an entry [6].

Such a target goes on with some names from the last of its beginnings that is a place. Nothing is behind these names
but longer paths, so it is enough to follow them one by one: a *stray* has the bit k if the first k + 1 of them are
done.
"""

from linkfarms.paths import split_path
from linkfarms.tables import ROOT, indexes

MOST_STRAYS = 200


def leads_to(ways, path, target):
    """Whether a path leads to another one."""
    if target in ways.numbers:
        return ways.read(path) >> ways.numbers[target] & 1 == 1
    if target not in ways.strays:
        if len(ways.strays) >= MOST_STRAYS:
            ways.strays.clear()
        ways.strays[target] = Strays(ways, target)
    return ways.strays[target].is_reached(ways, path)


class Strays:
    """How far the targets of references and their beginnings lead towards a path that is no place.

    start is the last place on the way, left are the names behind it; found has the strays of the paths that have one.
    """

    def __init__(self, ways, target):
        self.left = []
        place = target
        while place not in ways.numbers:
            place, slash, name = place.rpartition("/")
            self.left.append(name)
        self.left = self.left[::-1]
        self.start = ways.numbers[place]
        self.found = {}
        self.stack = []
        search = ways.search
        for shorter in search.found:
            if search.found[shorter] >> self.start & 1 and self.left[0] in search.longer[shorter]:
                self.note(search.longer[shorter][self.left[0]], 1)
        while len(self.stack) > 0:
            self.hand_on(search, self.stack.pop())

    def note(self, path, stray):
        """A path is found to lead so far."""
        before = self.found.get(path, 0)
        if stray & ~before:
            self.found[path] = before | stray
            self.stack.append(path)

    def hand_on(self, search, path):
        """What leads to a path leads as far as it, and longer paths perhaps one name further."""
        stray = self.found[path]
        for user in search.users[path]:
            self.note(user, stray)
        row = search.longer[path]
        for name in row:
            self.note(row[name], self.after(stray, name))

    def after(self, stray, name):
        """The stray of a path that goes on with a name."""
        reached = 0
        for at in indexes(stray):
            if at + 1 < len(self.left) and self.left[at + 1] == name:
                reached = reached | 1 << at + 1
        return reached

    def is_reached(self, ways, path):
        """Whether a path leads to the end."""
        state = ROOT
        stray = 0
        for name in split_path(path):
            reached = self.after(stray, name)
            if state >> self.start & 1 and name == self.left[0]:
                reached = reached | 1
            if len(self.found) > 0:
                for at in indexes(state & ways.inner):
                    for target in ways.targets.get(ways.inside[at].get(name), ()):
                        reached = reached | self.found.get(target, 0)
            state = ways.step(state, name)
            stray = reached
        return stray >> len(self.left) - 1 & 1 == 1

"""The sources [6] of the targets of references, found all together.

A place is the root or a path at which some package has an entry. Places have numbers, the root has 0. Several
places are written as one integer, a *state*, which has the bit of the number of each of them.
"""

from linkfarms.paths import joined, split_path

# The state of the root alone.
ROOT = 1


def indexes(state):
    """The ascending list of the numbers of the places of a state."""
    found = []
    left = state
    while left > 0:
        bit = left & -left
        found.append(bit.bit_length() - 1)
        left = left ^ bit
    return found


def inner_places(inside):
    """The state of all places behind which some name leads to a place."""
    state = 0
    for at in range(len(inside)):
        if len(inside[at]) > 0:
            state = state | 1 << at
    return state


def table_of(inside, targets):
    """A dict from all targets and their beginnings to the states of the places to which they lead.

    inside has a dict for each place, from the names behind it to the places there; targets has the list of the
    targets of the references at each place.
    """
    search = Search(inside, targets)
    for row in targets:
        for target in row:
            search.plant(target)
    search.note("", ROOT)
    search.run()
    return search.found


class Search:
    """What is found so far. What a path is found to lead to is handed on once, to all paths that need it."""

    def __init__(self, inside, targets):
        self.inside = inside
        self.inner = inner_places(inside)
        self.targets = targets
        self.found = {"": 0}
        self.fresh = {"": 0}
        self.longer = {"": {}}
        self.users = {"": {}}
        self.stack = []

    def plant(self, path):
        """Look for the sources of a path and of its beginnings."""
        shorter = ""
        for name in split_path(path):
            longer = joined(shorter, name)
            if longer not in self.found:
                self.found[longer] = 0
                self.fresh[longer] = 0
                self.longer[longer] = {}
                self.users[longer] = {}
                self.longer[shorter][name] = longer
            shorter = longer

    def note(self, path, state):
        """A path is found to lead to the places of a state."""
        fresh = state & ~self.found[path]
        if fresh == 0:
            return
        if self.fresh[path] == 0:
            self.stack.append(path)
        self.found[path] = self.found[path] | fresh
        self.fresh[path] = self.fresh[path] | fresh

    def run(self):
        """Hand on what is found, the latest first: so a ring is done in two rounds, however long it is."""
        while len(self.stack) > 0:
            path = self.stack.pop()
            state = self.fresh[path]
            self.fresh[path] = 0
            for user in self.users[path]:
                self.note(user, state)
            for name in self.longer[path]:
                self.go_on(state, name, self.longer[path][name])

    def go_on(self, state, name, path):
        """A path leads to what lies behind the places of a state with its last name."""
        for at in indexes(state & self.inner):
            if name in self.inside[at]:
                self.enter(path, self.inside[at][name])

    def enter(self, path, place):
        """A path leads to a place, and to all to which the targets there lead."""
        self.note(path, 1 << place)
        for target in self.targets[place]:
            if path not in self.users[target]:
                self.users[target][path] = True
                self.note(path, self.found[target])

"""The sources [6] of the targets of references, found all together.

A place is the root or a path at which some package has an entry. Places have numbers, the root has 0. Several
places are written as one integer, a *state*, which has the bit of the number of each of them.
"""

from linkfarms.paths import joined, split_path

# The state of the root alone.
ROOT = 1


def indexes(state):
    """The ascending list of the numbers of the places of a state."""
    found = []
    left = state
    while left:
        bit = left & -left
        found.append(bit.bit_length() - 1)
        left = left ^ bit
    return found


class Search:
    """Where all targets and their beginnings lead. What one is found to lead to is handed on once, to all that need it.

    inside has a dict for each place, from the names behind it to the places there; targets has for the places at
    which references are the lists of their targets. At the end found has the states of all targets and beginnings,
    longer the dicts from the names that go on from one to the longer one, users the paths to which the state of a
    target belongs, too.
    """

    def __init__(self, inside, targets):
        self.inside = inside
        self.targets = targets
        self.found = {"": 0}
        self.fresh = {"": 0}
        self.longer = {"": {}}
        self.users = {"": {}}
        self.stack = []
        for at in targets:
            for target in targets[at]:
                self.plant(target)
        if len(targets) > 0:
            self.note("", ROOT)
            self.run()

    def plant(self, path):
        """Look for the sources of a path and of its beginnings."""
        if path in self.found:
            return
        shorter = ""
        for name in split_path(path):
            row = self.longer[shorter]
            if name not in row:
                longer = joined(shorter, name)
                self.found[longer] = 0
                self.fresh[longer] = 0
                self.longer[longer] = {}
                self.users[longer] = {}
                row[name] = longer
            shorter = row[name]

    def note(self, path, state):
        """A path is found to lead to the places of a state."""
        fresh = state & ~self.found[path]
        if fresh:
            if self.fresh[path] == 0:
                self.stack.append(path)
            self.found[path] = self.found[path] | fresh
            self.fresh[path] = self.fresh[path] | fresh

    def run(self):
        """Hand on what is found, the latest first: so a ring is done in two rounds, however long it is."""
        while len(self.stack) > 0:
            path = self.stack.pop()
            state = self.fresh[path]
            self.fresh[path] = 0
            for user in self.users[path]:
                self.note(user, state)
            row = self.longer[path]
            if len(row) > 0:
                for at in indexes(state):
                    inside = self.inside[at]
                    for name in row:
                        if name in inside:
                            self.enter(row[name], inside[name])

    def enter(self, path, place):
        """A path leads to a place, and to all to which the targets there lead."""
        self.note(path, 1 << place)
        for target in self.targets.get(place, ()):
            users = self.users[target]
            if path not in users:
                users[path] = True
                self.note(path, self.found[target])

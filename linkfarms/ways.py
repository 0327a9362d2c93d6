"""Where the paths of a farm lead, and what the farm has there [6]."""

from linkfarms.paths import in_order, split_path
from linkfarms.tables import ROOT, indexes, inner_places, table_of


def ways_of(packages, marks=()):
    """The ways of a farm."""
    return Ways(entries_in(packages), marks)


def entries_in(packages):
    """The list of the tuples (name, path, item) of all entries, by name, then in path order."""
    return [
        (name, path, packages[name].entries[path])
        for name in sorted(packages)
        for path in packages[name].entries
    ]


def word_of(view):
    """What a path shows, in a word, at which the farm has this: (is_folder, contents)."""
    is_folder, contents = view
    if is_folder and len(contents) == 0:
        return "folder"
    if not is_folder and len(contents) == 1:
        return "file"
    if not is_folder and len(contents) == 0:
        return "nothing"
    return "clash"


def places_of(entries):
    """The list of the root and the paths of all entries, in path order."""
    found = {"": True}
    for name, path, item in entries:
        found[path] = True
    return in_order(list(found))


def number_in(inside, path):
    """The number of the place at a path."""
    at = 0
    for name in split_path(path):
        at = inside[at][name]
    return at


def plant_place(inside, path):
    """Add places until there is one at a path."""
    at = 0
    for name in split_path(path):
        if name not in inside[at]:
            inside[at][name] = len(inside)
            inside.append({})
        at = inside[at][name]


class Ways:
    """Entries, and whither all paths lead by them. The places are numbered in path order.

    The marks are paths that are places too, behind all others, though nothing need be there.
    """

    def __init__(self, entries, marks=()):
        self.places = places_of(entries)
        self.inside = [{}]
        for path in [*self.places, *marks]:
            plant_place(self.inside, path)
        self.inner = inner_places(self.inside)
        self.held = [[] for place in self.inside]
        self.folder_places = ROOT
        self.file_places = 0
        targets = [[] for place in self.inside]
        for name, path, item in entries:
            at = number_in(self.inside, path)
            if item is None:
                self.folder_places = self.folder_places | 1 << at
            elif isinstance(item, int):
                self.file_places = self.file_places | 1 << at
                self.held[at].append(item)
            else:
                targets[at].append(item)
        self.steps = steps_of(self.inside, targets)

    def step(self, state, name):
        """The places to which a path leads that goes on with a name from one that leads to a state."""
        reached = 0
        for at in indexes(state & self.inner):
            reached = reached | self.steps[at].get(name, 0)
        return reached

    def read(self, path):
        """The state of all places to which a path leads."""
        state = ROOT
        for name in split_path(path):
            state = self.step(state, name)
        return state

    def leads_to(self, path, mark):
        """Whether a path leads to the place at a mark."""
        return self.read(path) & (1 << number_in(self.inside, mark)) != 0

    def sources_in(self, state):
        """The list of the places of a state, in path order."""
        return [self.places[at] for at in indexes(state)]

    def view(self, state):
        """The tuple (is_folder, contents) of what the farm has at a path that leads to a state."""
        contents = sorted({content for at in indexes(state & self.file_places) for content in self.held[at]})
        return (state & self.folder_places != 0, tuple(contents))

    def next_states(self, state):
        """A dict from the names that go on to a path that shows something to its state, ascending."""
        reached = {}
        for at in indexes(state & self.inner):
            for name in self.steps[at]:
                reached[name] = reached.get(name, 0) | self.steps[at][name]
        shows = self.folder_places | self.file_places
        return {name: reached[name] for name in sorted(reached) if reached[name] & shows != 0}


def steps_of(inside, targets):
    """For each place the dict from the names behind it to the states to which they lead."""
    table = table_of(inside, targets)
    entered = [1 << at for at in range(len(inside))]
    for at in range(len(inside)):
        for target in targets[at]:
            entered[at] = entered[at] | table[target]
    return [{name: entered[row[name]] for name in row} for row in inside]

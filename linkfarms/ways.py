"""Where the paths of a farm lead, and what the farm has there [6]."""

from linkfarms.notes import tokens_of
from linkfarms.paths import in_order, split_path
from linkfarms.tables import ROOT, Search, indexes

# What a farm has at a path that shows a folder: (is_folder, contents).
FOLDER_VIEW = (True, ())


def ways_of(packages):
    """The ways of a farm."""
    names = sorted(packages)
    if len(names) == 0:
        return Ways([])
    notes = packages[names[0]].notes
    tokens = tokens_of(packages, names)
    ways = notes.recall(tokens)
    if ways is None:
        ways = Ways(entries_in(packages))
        notes.jot(tokens, ways)
    return ways


def entries_in(packages):
    """The list of the tuples (name, path, item) of all entries, by name, then in path order."""
    return [
        (name, path, packages[name].entries[path])
        for name in sorted(packages)
        for path in packages[name].entries
    ]


def word_of(view):
    """What a path shows, in a word, at which the farm has this: (is_folder, contents)."""
    is_folder, contents = view
    if is_folder:
        return "clash" if contents else "folder"
    if len(contents) == 0:
        return "nothing"
    return "file" if len(contents) == 1 else "clash"


def places_of(entries):
    """The list of the root and the paths of all entries, in path order."""
    found = {"": True}
    for name, path, item in entries:
        found[path] = True
    return in_order(list(found))


class Ways:
    """Entries with all their parents, and whither all paths lead by them. The places are numbered in path order.

    inside has for each place the dict from the names behind it, ascending, to the places there; steps has the same
    with the states to which they lead. chart and clash_note are for what is worked out from the ways, once it is
    asked for, as are the strays. Otherwise ways never change.
    """

    def __init__(self, entries):
        self.places = places_of(entries)
        self.numbers = {self.places[at]: at for at in range(len(self.places))}
        self.inside = [{} for place in self.places]
        for at in range(1, len(self.places)):
            folder, slash, name = self.places[at].rpartition("/")
            self.inside[self.numbers[folder]][name] = at
        self.held = {}
        self.folder_places = ROOT
        self.file_places = 0
        self.targets = {}
        for name, path, item in entries:
            self.add_item(self.numbers[path], item)
        self.shows = self.folder_places | self.file_places
        self.search = Search(self.inside, self.targets)
        self.steps = steps_of(self)
        self.inner = sum([1 << at for at in range(len(self.inside)) if len(self.inside[at]) > 0])
        self.chart = None
        self.clash_note = None
        self.strays = {}

    def add_item(self, at, item):
        """Some package has an entry at a place."""
        if item is None:
            self.folder_places = self.folder_places | 1 << at
        elif isinstance(item, int):
            self.file_places = self.file_places | 1 << at
            self.held.setdefault(at, []).append(item)
        else:
            self.targets.setdefault(at, []).append(item)

    def step(self, state, name):
        """The places to which a path leads that goes on with a name from one that leads to a state."""
        reached = 0
        left = state & self.inner
        while left:
            bit = left & -left
            left = left ^ bit
            row = self.steps[bit.bit_length() - 1]
            if name in row:
                reached = reached | row[name]
        return reached

    def read(self, path):
        """The state of all places to which a path leads."""
        state = ROOT
        for name in split_path(path):
            state = self.step(state, name)
        return state

    def sources_in(self, state):
        """The list of the places of a state, in path order."""
        return [self.places[at] for at in indexes(state)]

    def view(self, state):
        """The tuple (is_folder, contents) of what the farm has at a path that leads to a state."""
        is_folder = state & self.folder_places != 0
        files = state & self.file_places
        if files == 0:
            return (is_folder, ())
        return (is_folder, tuple(sorted({content for at in indexes(files) for content in self.held[at]})))

    def names_after(self, state):
        """A dict from the names that go on from the places of a state to all places to which they lead, ascending."""
        left = state & self.inner
        bit = left & -left
        if left == bit:
            return self.steps[bit.bit_length() - 1] if bit else {}
        reached = {}
        while left:
            bit = left & -left
            left = left ^ bit
            row = self.steps[bit.bit_length() - 1]
            for name in row:
                if name in reached:
                    reached[name] = reached[name] | row[name]
                else:
                    reached[name] = row[name]
        return {name: reached[name] for name in sorted(reached)}

    def names_shown(self, state):
        """The ascending list of the names that go on to a path that shows something."""
        reached = self.names_after(state)
        return [name for name in reached if reached[name] & self.shows]


def steps_of(ways):
    """For each place the dict from the names behind it to the states to which they lead."""
    entered = [1 << at for at in range(len(ways.places))]
    for at in ways.targets:
        for target in ways.targets[at]:
            entered[at] = entered[at] | ways.search.found[target]
    return [{name: entered[row[name]] for name in row} for row in ways.inside]

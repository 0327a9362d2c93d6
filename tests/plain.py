"""What a farm shows, told the plain way: by rewriting paths step by step, or by filling a table until it fits.

Nothing here is quick, and nothing is shared with the program but Package.
"""


def entries_of(packages):
    """The tuples (path, item) of all entries of a farm."""
    return [(path, item) for package in packages.values() for path, item in package.items()]


def rules_of(packages):
    """The tuples (path, target) of all references, as lists of names."""
    return [(split(path), split(item)) for path, item in entries_of(packages) if isinstance(item, str)]


def split(path):
    return path.split("/") if path else []


def order(path):
    return (len(split(path)), split(path))


def all_led_to(packages, path, most=None):
    """All paths to which a path leads, without those that are only found by way of more than so many names."""
    rules = rules_of(packages)
    found = {path}
    left = [split(path)]
    while left:
        parts = left.pop()
        for place, target in rules:
            if parts[:len(place)] == place:
                changed = target + parts[len(place):]
                written = "/".join(changed)
                if written not in found and (most is None or len(changed) <= most):
                    found.add(written)
                    left.append(changed)
    return found


def rewritten_sources(packages, path, most=None):
    """The sources of a path by rewriting; it ends by itself if no target has more names than its own path."""
    places = {""} | {place for place, item in entries_of(packages)}
    return sorted(all_led_to(packages, path, most) & places, key=order)


def table_of(packages):
    """The fewest sources of the targets by which all references fit together: filled until nothing is missing."""
    entries = entries_of(packages)
    table = {item: {""} if item == "" else set() for path, item in entries if isinstance(item, str)}
    missing = True
    while missing:
        missing = False
        for target in table:
            read = read_by(entries, table, target)
            if not read <= table[target]:
                table[target] |= read
                missing = True
    return table


def read_by(entries, table, path):
    """The places to which a path leads, if the targets lead where the table says."""
    state = {""}
    for name in split(path):
        state = step(entries, table, state, name)
    return state


def step(entries, table, state, name):
    """The places to which a path leads that goes on with this name from one that leads to those of a state."""
    after = set()
    for place in state:
        longer = place + "/" + name if place else name
        for other, item in entries:
            if other == longer:
                after.add(longer)
                if isinstance(item, str):
                    after |= table[item]
    return after


class Told:
    """A farm by its table: answers for all paths, however long."""

    def __init__(self, packages):
        self.entries = entries_of(packages)
        self.table = table_of(packages)
        self.all_names = sorted({name for place, item in self.entries for name in split(place)})

    def sources(self, path):
        return sorted(read_by(self.entries, self.table, path), key=order)

    def has(self, path):
        return had_at(self.entries, self.sources(path))

    def shown(self, path):
        return word(self.has(path))

    def names(self, path):
        longer = {name: path + "/" + name if path else name for name in self.all_names}
        return [name for name in self.all_names if self.shown(longer[name]) != "nothing"]

    def states(self):
        """A dict from the sets of sources of all paths that show something to the least path, in path order."""
        found = {frozenset([""]): ""}
        left = [frozenset([""])]
        for state in left:
            for name in self.all_names:
                after = frozenset(step(self.entries, self.table, state, name))
                if after not in found and word(had_at(self.entries, after)) != "nothing":
                    found[after] = found[state] + "/" + name if found[state] else name
                    left.append(after)
        return found

    def clash(self):
        """The least path that shows "clash", by looking at each state."""
        for state, path in self.states().items():
            if word(had_at(self.entries, state)) == "clash":
                return path
        return None

    def level(self, most):
        """The tuples (path, what it has) of all paths that show something, up to so many names, in path order."""
        row = [("", {""})]
        shown = []
        for _ in range(most + 1):
            shown += [(path, had_at(self.entries, state)) for path, state in row]
            longer = [(path + "/" + name if path else name, step(self.entries, self.table, state, name))
                      for path, state in row for name in self.all_names]
            row = [(path, state) for path, state in longer if word(had_at(self.entries, state)) != "nothing"]
        return shown


def had_at(entries, places):
    """The tuple (is_folder, contents) of what is at some places."""
    is_folder = "" in places or any(item is None and path in places for path, item in entries)
    contents = {item for path, item in entries if isinstance(item, int) and path in places}
    return (is_folder, tuple(sorted(contents)))


def word(had):
    is_folder, contents = had
    if is_folder:
        return "clash" if contents else "folder"
    return ["nothing", "file"][len(contents)] if len(contents) < 2 else "clash"


def all_paths(letters, most):
    """All paths of up to so many of these names, in path order."""
    rows = [[]]
    paths = [""]
    for _ in range(most):
        rows = [row + [name] for row in rows for name in letters]
        paths += ["/".join(row) for row in rows]
    return paths

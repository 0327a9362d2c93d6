"""Finding trails [17]: how a path comes to lead to a place, step by step."""

from linkfarms.paths import joined, parent, split_path
from linkfarms.ways import entries_in


def place_with_item(packages, places):
    """The tuple (place, name) of the first place at which a package has a file or a folder, and its name.

    The name is None at the root; None if there is no such place.
    """
    for place in places:
        if place == "":
            return ("", None)
        for name in sorted(packages):
            entries = packages[name].entries
            if place in entries and not isinstance(entries[place], str):
                return (place, name)
    return None


class Trails:
    """Whither a path, all targets and their beginnings lead, each with the step by which it was found first.

    A pair (path, place) says that a path leads to a place. befores has for each pair the place before it, and the
    pair of the target by which the step goes, None for a step without a reference. Pairs stand there in the order in
    which they were found, so a step goes only by pairs that stand earlier.
    """

    def __init__(self, packages, path):
        self.spots = {}
        for name, place, item in entries_in(packages):
            self.spots.setdefault(place, []).append(item)
        self.longer = {"": {}}
        self.ends = {"": []}
        self.users = {"": []}
        self.plant(path)
        for place in self.spots:
            for item in self.spots[place]:
                if isinstance(item, str):
                    self.plant(item)
        self.befores = {("", ""): None}
        self.waiting = [("", "")]
        while len(self.waiting) > 0:
            self.go_on(self.waiting.pop())

    def plant(self, path):
        """Look for the places to which a path and its beginnings lead."""
        shorter = ""
        for name in split_path(path):
            longer = joined(shorter, name)
            if longer not in self.longer:
                self.longer[longer] = {}
                self.ends[longer] = []
                self.users[longer] = []
                self.longer[shorter][name] = longer
            shorter = longer

    def go_on(self, pair):
        """Find what follows from a pair."""
        path, place = pair
        self.ends[path].append(place)
        for longer, before in list(self.users[path]):
            self.note((longer, place), before, pair)
        for name in self.longer[path]:
            self.step(self.longer[path][name], place, joined(place, name))

    def step(self, path, before, place):
        """A path goes on from one place to another one, if there is an entry."""
        if place not in self.spots:
            return
        self.note((path, place), before, None)
        for item in self.spots[place]:
            if isinstance(item, str):
                self.users[item].append((path, before))
                for end in list(self.ends[item]):
                    self.note((path, end), before, (item, end))

    def note(self, pair, before, origin):
        """A path is found to lead to a place."""
        if pair not in self.befores:
            self.befores[pair] = (before, origin)
            self.waiting.append(pair)

    def trail(self, path, place):
        """The trail of a path that was found first for a place."""
        return tuple(list(reversed([spot for spot, origin in self.back(path, place)])))

    def back(self, path, place):
        """The list of the tuples (place, pair by which it was reached), from the last one to the root."""
        found = []
        while path != "":
            before, origin = self.befores[(path, place)]
            found.append((place, origin))
            path = parent(path)
            place = before
        return [*found, ("", None)]

    def facts_for(self, path, place):
        """The tuple of the facts that the trail of a path uses, and of those that these use, in the order found."""
        needed = {}
        waiting = [(path, place)]
        while len(waiting) > 0:
            pair = waiting.pop()
            for spot, origin in self.back(pair[0], pair[1]):
                if origin is not None and origin not in needed:
                    needed[origin] = True
                    waiting.append(origin)
        ordered = [pair for pair in self.befores if pair in needed]
        return tuple([(pair[0], self.trail(pair[0], pair[1])) for pair in ordered])

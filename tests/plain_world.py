"""A plain world: packages as dicts of entries, farms built anew for each question, no history but copies."""

import copy

from linkfarms.packages import Package
from plain import Told, order


class Refused(Exception):
    """What a world says no with: the name of the error, and its fields."""

    def __init__(self, *told):
        self.told = told


def parents(path):
    parts = path.split("/")
    return ["/".join(parts[:at]) for at in range(1, len(parts))]


class PlainWorld:
    def __init__(self):
        self.packages = {}
        self.farms = {}

    def farm_dict(self, farm):
        installed, own = self.farms[farm]
        rows = {name: Package(self.packages[name]) for name in installed}
        if own:
            rows["own"] = Package(own)
        return rows

    def told(self, farm):
        return Told(self.farm_dict(farm))

    def parts(self, farm):
        installed, own = self.farms[farm]
        return [(None, own)] + [(name, self.packages[name]) for name in sorted(installed)]

    def owners(self, farm, path):
        places = self.told(farm).sources(path)
        return [(name, place) for name, entries in self.parts(farm) for place in sorted(places, key=order)
                if place == "" or entries.get(place, "no") is None]

    def holders(self, farm, path):
        places = self.told(farm).sources(path)
        return [(name, place) for name, entries in self.parts(farm) for place in sorted(places, key=order)
                if isinstance(entries.get(place), int)]

    def landing(self, farm, path):
        parent, _, last = path.rpartition("/")
        owners = self.owners(farm, parent)
        if len(owners) == 1:
            name, place = owners[0]
            entries = dict(self.parts(farm))[name]
            below = [entries[other] for other in entries if place == "" or other.startswith(place + "/")]
            if not any(isinstance(item, str) for item in below):
                return (name, place + "/" + last if place else last)
        return (None, path)

    def done(self, change):
        """The world after a change, if no farm clashes in it."""
        after = copy.deepcopy(self)
        change(after)
        for farm in sorted(after.farms):
            path = after.told(farm).clash()
            if path is not None:
                raise Refused("Clash", farm, path)
        return after

    def entries_of(self, farm, name):
        return self.farms[farm][1] if name is None else self.packages[name]

    def check(self, farm, path):
        told = self.told(farm)
        if told.shown(path) != "nothing":
            raise Refused("Taken", path)
        parent = path.rpartition("/")[0]
        if told.shown(parent) != "folder":
            raise Refused("NoFolder", parent)

    def entered(self, farm, path, item):
        self.check(farm, path)
        name, place = self.landing(farm, path)
        if place.count("/") >= 10:
            raise Refused("BadEntry", place)
        rows = self.entries_of(farm, name)
        if len(set(rows) | set(parents(place)) | {place}) > 40:
            raise Refused("TooMany", 40)

        def change(world):
            entries = world.entries_of(farm, name)
            for other in parents(place):
                entries.setdefault(other, None)
            entries[place] = item
        return self.done(change), (name, place)

    def held(self, farm, path):
        holders = self.holders(farm, path)
        if not holders:
            raise Refused("NoFile", path)
        if len(holders) > 1:
            raise Refused("Shared", holders)
        return holders[0]

    def replaced(self, farm, path, content):
        name, place = self.held(farm, path)

        def change(world):
            world.entries_of(farm, name)[place] = content
        return self.done(change), (name, place)

    def erased(self, farm, path):
        name, place = self.held(farm, path)

        def change(world):
            del world.entries_of(farm, name)[place]
        return self.done(change), (name, place)

    def defined(self, name, package):
        if name not in self.packages and len(self.packages) == 6:
            raise Refused("TooMany", 6)

        def change(world):
            world.packages[name] = dict(package.items())
        return self.done(change), None

    def opened(self, farm, *names):
        if farm in self.farms:
            raise Refused("Taken", farm)
        self.check_names(names, self.packages, [])
        if len(self.farms) == 4:
            raise Refused("TooMany", 4)

        def change(world):
            world.farms[farm] = (list(names), {})
        return self.done(change), None

    def check_names(self, names, known, taken):
        for name in names:
            if name not in known:
                raise Refused("NoPackage", name)
        for at, name in enumerate(names):
            if name in taken or name in names[:at]:
                raise Refused("Taken", name)

    def installing(self, farm, *names):
        self.check_names(names, self.packages, self.farms[farm][0])

        def change(world):
            world.farms[farm][0].extend(names)
        return self.done(change), None

    def uninstalling(self, farm, *names):
        self.check_names(names, self.farms[farm][0], [])

        def change(world):
            for name in names:
                world.farms[farm][0].remove(name)
        return self.done(change), None

    def ahead(self, farm, path, other, most):
        """All paths of up to so many names of another farm at which a file written here would be seen."""
        self.check(farm, path)
        name, place = self.landing(farm, path)
        after = copy.deepcopy(self)
        if name is None and farm != other or name is not None and name not in self.farms[other][0]:
            return []
        entries = after.entries_of(farm, name)
        for folder in parents(place):
            entries.setdefault(folder, None)
        entries[place] = 77
        told = after.told(other)
        rows = [("", [""])]
        found = []
        for _ in range(most):
            rows = [(path + "/" + step if path else step, None) for path, _ in rows for step in told.all_names]
            rows = [(path, told.sources(path)) for path, _ in rows]
            found += [path for path, places in rows if place in places]
            rows = [(path, places) for path, places in rows if places]
        return found

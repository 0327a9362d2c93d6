"""Worlds of packages and farms that change over time [15, 16]."""

from linkfarms.charts import chart_of
from linkfarms.clashes import least_clash
from linkfarms.entries import is_content
from linkfarms.errors import BadContent, BadName, BadPackage, Clash, NoFarm, NoFile
from linkfarms.errors import NoFolder, NoPackage, NothingToUndo, Shared, Taken, TooMany
from linkfarms.lots import OWN, holders_at, landing_at, owners_at, packages_of
from linkfarms.packages import Package
from linkfarms.paths import check_path, is_name, parent
from linkfarms.reaching import count_paths_to, least_path_to
from linkfarms.ways import entries_in, ways_of, word_of

MOST_PACKAGES = 6
MOST_FARMS = 4


class World:
    """A world. shelf has its packages, lots what each farm consists of; both are replaced as a whole by each deed.

    past has what they were before each deed that can be undone.
    """

    def __init__(self):
        self.shelf = {}
        self.lots = {}
        self.past = []

    def define(self, name, package):
        """Add a package, or replace it in all farms."""
        if not is_name(name) or name == OWN:
            raise BadName(name)
        if not isinstance(package, Package):
            raise BadPackage(package)
        if name not in self.shelf and len(self.shelf) == MOST_PACKAGES:
            raise TooMany(MOST_PACKAGES)
        self.put(None, name, package)

    def open_farm(self, farm, *names):
        """Add a farm with these packages."""
        if not is_name(farm):
            raise BadName(farm)
        if farm in self.lots:
            raise Taken(farm)
        check_all_in(names, self.shelf)
        check_each_once(names, ())
        if len(self.lots) == MOST_FARMS:
            raise TooMany(MOST_FARMS)
        self.settle(self.shelf, {**self.lots, farm: (tuple(sorted(names)), Package())}, [farm])

    def install(self, farm, *names):
        """Add these packages to a farm."""
        installed, own_entries = self.lot(farm)
        check_all_in(names, self.shelf)
        check_each_once(names, installed)
        self.settle(self.shelf, {**self.lots, farm: (tuple(sorted([*installed, *names])), own_entries)}, [farm])

    def uninstall(self, farm, *names):
        """Remove these packages from a farm."""
        installed, own_entries = self.lot(farm)
        check_all_in(names, installed)
        check_each_once(names, ())
        left = tuple([name for name in installed if name not in names])
        self.settle(self.shelf, {**self.lots, farm: (left, own_entries)}, [farm])

    def write(self, farm, path, content):
        """Add a file at a path of a farm; its landing."""
        check_path(path)
        self.lot(farm)
        if not is_content(content):
            raise BadContent(content)
        return self.enter(farm, path, content)

    def make_folder(self, farm, path):
        """Add a folder at a path of a farm; its landing."""
        return self.enter(farm, path, None)

    def enter(self, farm, path, item):
        """Add a new entry at a path of a farm; its landing. Raises BadPath and NoFarm first."""
        self.check_free(farm, path)
        name, place = landing_at(self.shelf, self.lots[farm], path)
        # This refuses places of more than ten names, and the forty-first entry.
        self.put(farm, name, self.part(farm, name).changed(place, item))
        return (name, place)

    def replace(self, farm, path, content):
        """Change the file of the only holder of a path of a farm; the holder."""
        check_path(path)
        self.lot(farm)
        if not is_content(content):
            raise BadContent(content)
        name, place = self.holder(farm, path)
        self.put(farm, name, self.part(farm, name).changed(place, content))
        return (name, place)

    def erase(self, farm, path):
        """Remove the file of the only holder of a path of a farm; the holder."""
        name, place = self.holder(farm, path)
        self.put(farm, name, self.part(farm, name).without(place))
        return (name, place)

    def shown(self, farm, path):
        """What a path of a farm shows."""
        check_path(path)
        ways = ways_of(packages_of(self.shelf, self.lot(farm)))
        return word_of(ways.view(ways.read(path)))

    def owners(self, farm, path):
        """The list of the owners of a path of a farm."""
        check_path(path)
        return owners_at(self.shelf, self.lot(farm), path)

    def holders(self, farm, path):
        """The list of the holders of a path of a farm."""
        check_path(path)
        return holders_at(self.shelf, self.lot(farm), path)

    def landing(self, farm, path):
        """The landing of a new entry at a path of a farm."""
        check_path(path)
        lot = self.lot(farm)
        if path == "":
            raise NoFolder(path)
        return landing_at(self.shelf, lot, path)

    def ahead(self, farm, path, other):
        """The least path of another farm at which a new file at a path of a farm would be seen, or None."""
        name, place = self.landing_ahead(farm, path, other)
        if not self.shows_part(other, farm, name):
            return None
        return least_path_to(entries_in(self.dict_of(other)), place)

    def count_ahead(self, farm, path, other, length):
        """At how many paths of another farm with so many names it would be seen; raises TooMany(500)."""
        name, place = self.landing_ahead(farm, path, other)
        if not self.shows_part(other, farm, name):
            chart_of(self.dict_of(other))
            return 0
        return count_paths_to(entries_in(self.dict_of(other)), place, length)

    def landing_ahead(self, farm, path, other):
        """The landing of a file that may be written at a path of a farm, while another one is asked about."""
        check_path(path)
        self.lot(farm)
        self.lot(other)
        self.check_free(farm, path)
        return landing_at(self.shelf, self.lots[farm], path)

    def undo(self):
        """Take back the last deed."""
        if len(self.past) == 0:
            raise NothingToUndo()
        self.shelf, self.lots = self.past.pop()

    def trial(self):
        """An object for one with statement, at whose end all deeds within it are taken back."""
        return Trial(self)

    def tried(self, function):
        """What a function returns that is called with the world in a trial."""
        with self.trial() as world:
            return function(world)

    @property
    def packages(self):
        """The ascending list of the names of the packages."""
        return sorted(self.shelf)

    @property
    def farms(self):
        """The ascending list of the names of the farms."""
        return sorted(self.lots)

    @property
    def deeds(self):
        """How many deeds can be undone."""
        return len(self.past)

    def package(self, name):
        """The package with a name."""
        if not isinstance(name, str) or name not in self.shelf:
            raise NoPackage(name)
        return self.shelf[name]

    def own(self, farm):
        """The package of the own entries of a farm."""
        return self.lot(farm)[1]

    def installed(self, farm):
        """The ascending list of the names of the installed packages of a farm."""
        return list(self.lot(farm)[0])

    def dict_of(self, farm):
        """The packages that a farm shows, its own entries under the name own if there are any."""
        return packages_of(self.shelf, self.lot(farm))

    def lot(self, farm):
        """What a farm consists of; raises NoFarm for any value that is not the name of a farm."""
        if not isinstance(farm, str) or farm not in self.lots:
            raise NoFarm(farm)
        return self.lots[farm]

    def part(self, farm, name):
        """The package with a name, None for the own entries of a farm."""
        return self.lots[farm][1] if name is None else self.shelf[name]

    def shows_part(self, other, farm, name):
        """Whether a farm shows the package with this name, None for the own entries of the second farm."""
        if name is None:
            return other == farm
        return name in self.lots[other][0]

    def check_free(self, farm, path):
        """Raise BadPath, NoFarm, Taken for a path that shows something, NoFolder for a parent that shows no folder."""
        if self.shown(farm, path) != "nothing":
            raise Taken(path)
        if self.shown(farm, parent(path)) != "folder":
            raise NoFolder(parent(path))

    def holder(self, farm, path):
        """The only holder of a path; raises BadPath, NoFarm, NoFile, Shared."""
        holders = self.holders(farm, path)
        if len(holders) == 0:
            raise NoFile(path)
        if len(holders) > 1:
            raise Shared(holders)
        return holders[0]

    def put(self, farm, name, package):
        """Do the deed by which a package, or the own entries of a farm, are replaced."""
        if name is None:
            self.settle(self.shelf, {**self.lots, farm: (self.lots[farm][0], package)}, [farm])
        else:
            users = [user for user in sorted(self.lots) if name in self.lots[user][0]]
            self.settle({**self.shelf, name: package}, self.lots, users)

    def settle(self, shelf, lots, changed_farms):
        """Do a deed that changes these farms; raises Clash for the first one that would clash."""
        for farm in changed_farms:
            path = least_clash(ways_of(packages_of(shelf, lots[farm])))
            if path is not None:
                raise Clash(farm, path)
        self.past.append((self.shelf, self.lots))
        self.shelf = shelf
        self.lots = lots

    def __contains__(self, thing):
        return isinstance(thing, str) and (thing in self.shelf or thing in self.lots)

    def __len__(self):
        return len(self.lots)

    def __eq__(self, other):
        return isinstance(other, World) and self.shelf == other.shelf and self.lots == other.lots


class Trial:
    """A with block of a world. At its end the world is as it was at its beginning."""

    def __init__(self, host):
        self.host = host
        self.shelf = {}
        self.lots = {}
        self.past = []

    def __enter__(self):
        self.shelf = self.host.shelf
        self.lots = self.host.lots
        self.past = self.host.past
        # The deeds of the trial are kept apart, so what can be undone afterwards stays as it is.
        self.host.past = []
        return self.host

    def __exit__(self, kind, value, trace):
        self.host.shelf = self.shelf
        self.host.lots = self.lots
        self.host.past = self.past


def check_all_in(names, known):
    """Raise NoPackage for the first of any values that is not one of the known names."""
    for name in names:
        if not isinstance(name, str) or name not in known:
            raise NoPackage(name)


def check_each_once(names, taken):
    """Raise Taken for the first name that is taken, or is given a second time."""
    for at in range(len(names)):
        if names[at] in taken or names[at] in names[:at]:
            raise Taken(names[at])

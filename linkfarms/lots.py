"""What a farm of a world consists of, where its entries come from, and where new ones go [15].

A *lot* is what a world knows of a farm: the tuple of its installed names, ascending, and the package of its own
entries. The packages of a world are a dict, its shelf.
"""

from linkfarms.paths import joined, parent, split_path
from linkfarms.ways import ways_of

# No package of a world has this name.
OWN = "own"


def packages_of(shelf, lot):
    """The dict of the packages that a farm shows."""
    installed, own_entries = lot
    shown_ones = {name: shelf[name] for name in installed}
    if len(own_entries) > 0:
        shown_ones[OWN] = own_entries
    return shown_ones


def parts_of(shelf, lot):
    """The list of the tuples (name, package) of a farm; the own entries come first, with None as their name."""
    installed, own_entries = lot
    return [(None, own_entries), *[(name, shelf[name]) for name in installed]]


def placed_at(shelf, lot, path, kind):
    """The list of the tuples (name, place) of all sources of a path at which a package has something of this kind."""
    ways = ways_of(packages_of(shelf, lot))
    sources = ways.sources_in(ways.read(path))
    return [
        (name, place)
        for name, package in parts_of(shelf, lot)
        for place in sources
        if package.kind(place) == kind
    ]


def owners_at(shelf, lot, path):
    """The list of the owners of a path."""
    return placed_at(shelf, lot, path, "folder")


def holders_at(shelf, lot, path):
    """The list of the holders of a path."""
    return placed_at(shelf, lot, path, "file")


def landing_at(shelf, lot, path):
    """The landing of a new entry at a path that is not the root."""
    owners = owners_at(shelf, lot, parent(path))
    if len(owners) == 1:
        name, place = owners[0]
        package = lot[1] if name is None else shelf[name]
        if package.is_plain(place) or (place == "" and len(package.references) == 0):
            return (name, joined(place, split_path(path)[-1]))
    return (None, path)

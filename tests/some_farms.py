"""Farms that several tests use, the same ones at each call."""

import random

from linkfarms.packages import Package
from samples import name_of

LETTERS = ["a", "b", "c"]


def random_path(dice, letters, least, most):
    return "/".join([dice.choice(letters) for _ in range(dice.randint(least, most))])


def random_target(dice, letters, path, longer):
    """A target; if it may not be longer, with at most as many names as the path."""
    most = 4 if longer else len(path.split("/"))
    return random_path(dice, letters, 0, most)


def random_package(dice, letters, many, longer, depth=3):
    """A package of up to so many given entries."""
    entries = {}
    for _ in range(dice.randint(0, many)):
        path = random_path(dice, letters, 1, depth)
        parts = path.split("/")
        above = ["/".join(parts[:at]) for at in range(1, len(parts))]
        if any(entries.get(place) is not None for place in above):
            continue
        if any(other.startswith(path + "/") for other in entries):
            continue
        entries[path] = dice.choice([None, 0, 1, random_target(dice, letters, path, longer)])
    return Package(entries)


def random_farm(dice, longer=True, many=5, packages=3, letters=LETTERS, depth=3):
    """A farm of up to so many packages."""
    return {
        name_of(at): random_package(dice, letters, many, longer, depth)
        for at in range(dice.randint(0, packages))
    }


def random_farms(how_many, seed, **told):
    dice = random.Random(seed)
    return [random_farm(dice, **told) for _ in range(how_many)]


def dealt(entries):
    """A farm with these entries, a list of tuples (path, item), dealt out to as many packages as it takes."""
    rows = []
    for path, item in entries:
        for row in rows:
            if fits(row, path, item):
                row[path] = item
                break
        else:
            rows.append({path: item})
    return {name_of(at): Package(rows[at]) for at in range(len(rows))}


def fits(row, path, item):
    parts = path.split("/")
    above = ["/".join(parts[:at]) for at in range(1, len(parts))]
    if path in row or any(row.get(place) is not None for place in above):
        return False
    if item is not None and any(other.startswith(path + "/") for other in row):
        return False
    full = set(above) | {path}
    for other in row:
        parts = other.split("/")
        full |= {"/".join(parts[:at]) for at in range(1, len(parts) + 1)}
    return len(full) <= 40


def place_of(number, head="r"):
    """A name for each number from 0 on, with this letter ahead."""
    return head + name_of(number)


def ring(many, folder=""):
    """The references of a ring of so many, in a folder."""
    lead = folder + "/" if folder else ""
    return [(lead + place_of(at), lead + place_of((at + 1) % many)) for at in range(many)]


def spiral(many, name="x", head="r"):
    """The references by which a name leads from each of so many places to the next one, and round again."""
    return [(place_of(at, head) + "/" + name, place_of((at + 1) % many, head)) for at in range(many)]


def window_rows(many, name="a", head="f"):
    """The references by which a path of names a and b leads so far as its k-th name from the end is this name."""
    steps = [(place_of(at, head) + "/" + step, place_of(at + 1, head)) for at in range(many) for step in "ab"]
    return [(name, place_of(0, head))] + steps


def window(many):
    """A farm with about two to the power of many states."""
    return dealt([("a", ""), ("b", "")] + window_rows(many) + [(place_of(many, "f"), None)])


def full_farm(seed=1):
    """Six packages of forty entries each, with references among them."""
    dice = random.Random(seed)
    letters = ["a", "b", "c", "d", "e", "f", "g", "h"]
    farm = {}
    for name in ["one", "two", "three", "four", "five", "six"]:
        package = Package()
        while len(package) < 40:
            path = random_path(dice, letters, 1, 5)
            item = dice.choice([None, None, 7, random_path(dice, letters, 0, 4)])
            if grows(package, path, item):
                package = package.changed(path, item)
        farm[name] = package
    return farm


def grows(package, path, item):
    """Whether this entry can be added to a package."""
    if path in package:
        return False
    entries = dict(package.items())
    return fits(entries, path, item)


def loop(many, head):
    """A folder in which so many names x lead round to the folder itself."""
    return [(head + "/x" * many, head)]


def two_loops(one, other, ends):
    """A farm with two loops from one path t; the last folder of each loop has one of these items under y."""
    rows = [("t", "r"), ("t", "s")] + loop(one, "r") + loop(other, "s")
    return dealt(rows + [("r" + "/x" * (one - 1) + "/y", ends[0]), ("s" + "/x" * (other - 1) + "/y", ends[1])])


def two_spirals(one, other, ends):
    """The same with a folder of its own for each step."""
    rows = [("t", place_of(0, "r")), ("t", place_of(0, "s"))] + spiral(one, "x", "r") + spiral(other, "x", "s")
    return dealt(rows + [(place_of(one - 1, "r") + "/y", ends[0]), (place_of(other - 1, "s") + "/y", ends[1])])


def rings_from_one_path(sizes):
    """The references of one path to the starts of several rings of folders of these sizes."""
    rows = []
    for at, size in enumerate(sizes):
        head = "klmn"[at]
        rows += [("t", place_of(0, head))] + spiral(size, "x", head)
        rows += [(place_of(step, head), None) for step in range(size)]
    return rows

"""Farms beside whatever is added to them [9]: what leads where, covering, and needless references."""

from linkfarms.packages import Package
from linkfarms.paths import LETTERS, check_path, joined, split_path
from linkfarms.strays import leads_to
from linkfarms.ways import Ways, entries_in, ways_of


def leads(packages, path, target):
    """Whether a path leads to another one in a farm."""
    check_path(path)
    check_path(target)
    return leads_to(ways_of(packages), path, target)


def covers(one, other):
    """Whether the first farm covers the second one."""
    return len(uncovered(one, other)) == 0


def uncovered(one, other):
    """The list of the tuples (path, item) of the entries of the second farm that do not follow in the first one."""
    ways = ways_of(one)
    return [(path, item) for name, path, item in entries_in(other) if not follows(ways, path, item)]


def follows(ways, path, item):
    """Whether a farm has an item at a path, or leads from it to the target if the item is a reference."""
    if isinstance(item, str):
        return leads_to(ways, path, item)
    is_folder, contents = ways.view(ways.read(path))
    if item is None:
        return is_folder
    return item in contents


def parting_beside(one, other):
    """None if two farms are alike beside everything, otherwise where they part, with or without a file beside them.

    The result is ("alone", path) or ("beside", place, content, path).
    """
    parted = uncovered(one, other) + uncovered(other, one)
    if len(parted) == 0:
        return None
    for path, item in parted:
        if not isinstance(item, str):
            return ("alone", path)
    path, target = parted[0]
    # No entry has this name, so a path that ends with it leads only where the path before it leads.
    name = unused_name(entries_in(one) + entries_in(other))
    return ("beside", joined(target, name), 0, joined(path, name))


def unused_name(entries):
    """A name that no path among these entries has."""
    used = {split_path(path)[-1]: True for name, path, item in entries}
    for first in LETTERS:
        for second in LETTERS:
            for third in LETTERS:
                if first + second + third not in used:
                    return first + second + third


def needless(packages):
    """The list of the tuples (name, path) of the needless references, by name, then in path order."""
    entries = entries_in(packages)
    return [entries[at][:2] for at in range(len(entries)) if is_needless(entries, at)]


def is_needless(entries, at):
    """Whether an entry is a reference that follows from the others."""
    name, path, target = entries[at]
    if not isinstance(target, str):
        return False
    others = entries[:at] + entries[at + 1:]
    return leads_to(Ways(others), path, target)


def reduced(packages):
    """The same packages without some of their references: alike beside everything, and none is needless."""
    kept = entries_in(packages)
    # A reference that is needed stays needed when others go, so each one is tried once.
    at = 0
    while at < len(kept):
        if is_needless(kept, at):
            del kept[at]
        else:
            at += 1
    rows = {name: {} for name in sorted(packages)}
    for name, path, item in kept:
        rows[name][path] = item
    return {name: Package(rows[name]) for name in rows}

"""Papers [17]: what shows that a path shows something, or nothing, step by step."""

from linkfarms.paths import check_path, in_order, is_path, joined, split_path
from linkfarms.trails import Trails, place_with_item
from linkfarms.ways import ways_of


def paper(packages, path):
    """A paper about what a path shows: "shown" if it shows anything, otherwise "absent"."""
    check_path(path)
    ways = ways_of(packages)
    sources = ways.sources_in(ways.read(path))
    found = place_with_item(packages, sources)
    if found is None:
        targets = targets_of(items_by_place(packages))
        table = {target: tuple(ways.sources_in(ways.read(target))) for target in targets}
        return ("absent", path, table)
    place, name = found
    trails = Trails(packages, path)
    return ("shown", path, trails.facts_for(path, place), trails.trail(path, place), name)


def items_by_place(packages):
    """A dict from the paths at which some package has an entry to the list of the items there."""
    items = {}
    for name in sorted(packages):
        entries = packages[name].entries
        for path in entries:
            items.setdefault(path, []).append(entries[path])
    return items


def targets_of(items):
    """The list of the targets of all references, in path order."""
    found = {item: True for path in items for item in items[path] if isinstance(item, str)}
    return in_order(list(found))


def holds(packages, thing):
    """Whether any value is a correct paper about a farm, with exactly these parts."""
    if not isinstance(thing, tuple) or len(thing) < 3 or not isinstance(thing[0], str) or not is_path(thing[1]):
        return False
    if thing[0] == "shown" and len(thing) == 5:
        return holds_shown(packages, thing[1], thing[2], thing[3], thing[4])
    if thing[0] == "absent" and len(thing) == 3:
        return holds_absent(packages, thing[1], thing[2])
    return False


def holds_shown(packages, path, facts, trail, name):
    """Whether any values show, together, that a path shows something."""
    items = items_by_place(packages)
    if not isinstance(facts, tuple):
        return False
    ends = {}
    for fact in facts:
        if not isinstance(fact, tuple) or len(fact) != 2 or not is_path(fact[0]):
            return False
        if not is_trail(items, ends, fact[0], fact[1]):
            return False
        ends.setdefault(fact[0], {})[fact[1][-1]] = True
    if not is_trail(items, ends, path, trail):
        return False
    last = trail[-1]
    if last == "":
        return name is None
    if not isinstance(name, str) or name not in packages or last not in packages[name].entries:
        return False
    item = packages[name].entries[last]
    return item is None or isinstance(item, int)


def is_trail(items, ends, path, thing):
    """Whether any value is a trail of a path; ends has the last places of the facts that it may use."""
    names = split_path(path)
    if not isinstance(thing, tuple) or len(thing) != len(names) + 1:
        return False
    if not all([isinstance(place, str) for place in thing]) or thing[0] != "":
        return False
    return all([leads_on(items, ends, thing[at], names[at], thing[at + 1]) for at in range(len(names))])


def leads_on(items, ends, place, name, after):
    """Whether a trail may go on from one place to another one by a name."""
    longer = joined(place, name)
    if longer not in items:
        return False
    if after == longer:
        return True
    return any([isinstance(item, str) and after in ends.get(item, ()) for item in items[longer]])


def holds_absent(packages, path, table):
    """Whether any value is a table by which a path shows nothing."""
    items = items_by_place(packages)
    targets = targets_of(items)
    if not isinstance(table, dict) or not all([isinstance(key, str) for key in table]):
        return False
    if sorted(table) != sorted(targets) or not all([is_list_of_places(table[target]) for target in targets]):
        return False
    rows = {target: {place: True for place in table[target]} for target in targets}
    for target in targets:
        if not all([place in rows[target] for place in read_by(items, rows, target)]):
            return False
    return all([is_empty_place(items, place) for place in read_by(items, rows, path)])


def is_list_of_places(thing):
    """Whether any value is a tuple of paths in path order, without duplicates."""
    if not isinstance(thing, tuple) or not all([is_path(place) for place in thing]):
        return False
    return in_order(list({place: True for place in thing})) == list(thing)


def read_by(items, rows, path):
    """A dict from the places to which a path is read by the rows of a table to True."""
    places = {"": True}
    for name in split_path(path):
        after = {}
        for place in places:
            longer = joined(place, name)
            for item in items.get(longer, ()):
                after[longer] = True
                if isinstance(item, str):
                    after.update(rows[item])
        places = after
    return places


def is_empty_place(items, place):
    """Whether no package has a file or a folder at a place, and it is not the root."""
    return place != "" and all([isinstance(item, str) for item in items.get(place, ())])

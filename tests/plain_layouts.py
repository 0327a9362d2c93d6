"""Layouts and keeps, told the plain way: by walking, and by trying all. Nothing is shared with the program."""

import itertools

from plain import had_at, order, split, step


def tables_of(layout):
    return layout.tables(), layout.top


def items_of(packages, name):
    return dict(packages[name].items())


def is_plain_folder(packages, name, path):
    items = items_of(packages, name)
    if path not in items or items[path] is not None:
        return False
    return not any(isinstance(items[place], str) for place in items if place.startswith(path + "/"))


def is_good_target(packages, target):
    name, path = target
    if name not in packages:
        return False
    return isinstance(items_of(packages, name).get(path), int) or is_plain_folder(packages, name, path)


def after(packages, tables, spot, name):
    """What a name reaches from a joint, a tuple or None."""
    if spot is None:
        return None
    if isinstance(spot, int):
        return tables[spot].get(name)
    package, path = spot
    longer = path + "/" + name
    return (package, longer) if longer in items_of(packages, package) else None


def reached(packages, layout, path):
    tables, spot = tables_of(layout)
    for name in split(path):
        spot = after(packages, tables, spot, name)
    return spot


def view(packages, spot):
    """What a layout has at a path that reaches this, as a farm has it: (is_folder, contents)."""
    if spot is None:
        return (False, ())
    if isinstance(spot, int):
        return (True, ())
    content = items_of(packages, spot[0])[spot[1]]
    return (True, ()) if content is None else (False, (content,))


def names_at(packages, tables, spot):
    if spot is None:
        return []
    if isinstance(spot, int):
        return sorted(tables[spot])
    start = spot[1] + "/"
    return sorted(place[len(start):] for place in items_of(packages, spot[0])
                  if place.startswith(start) and "/" not in place[len(start):])


def seen(layout):
    tables, top = tables_of(layout)
    found, left = {top}, [top]
    while left:
        for target in tables[left.pop()].values():
            if isinstance(target, int) and target not in found:
                found.add(target)
                left.append(target)
    return sorted(found)


def walk_together(packages, layouts):
    """A dict from the tuples of what paths reach in several layouts to the least such path, in path order."""
    start = tuple(layout.top for layout in layouts)
    tables = [layout.tables() for layout in layouts]
    found = {start: ""}
    row = [start]
    while row:
        fresh = []
        for spots in row:
            names = sorted({name for at, spot in enumerate(spots) for name in names_at(packages, tables[at], spot)})
            for name in names:
                longer = tuple(after(packages, tables[at], spot, name) for at, spot in enumerate(spots))
                if longer not in found:
                    found[longer] = found[spots] + "/" + name if found[spots] else name
                    fresh.append(longer)
        row = fresh
    return found


def differing(packages, told, layout):
    """The least path at which a layout does not show what a farm shows; told is the farm as a plain.Told."""
    tables, top = tables_of(layout)
    start = (frozenset([""]), top)
    found = {start: ""}
    queue = [start]
    for state, spot in queue:
        path = found[(state, spot)]
        if had_at(told.entries, state) != view(packages, spot):
            return path
        for name in sorted(set(told.all_names) | set(names_at(packages, tables, spot))):
            pair = (frozenset(step(told.entries, told.table, state, name)), after(packages, tables, spot, name))
            if pair not in found and pair != (frozenset(), None):
                found[pair] = path + "/" + name if path else name
                queue.append(pair)
    return None


def least_tables(packages, told):
    """The tables of the least layout of a sound farm, by comparing all states with one another."""
    states = list(told.states())
    moves = {state: moves_of(told, state) for state in states}
    color = {state: had_at(told.entries, state) for state in states}
    while True:
        finer = {state: (color[state], tuple((name, color[moves[state][name]]) for name in moves[state]))
                 for state in states}
        numbers = {}
        for state in states:
            numbers.setdefault(finer[state], len(numbers))
        if len(numbers) == len(set(color.values())):
            break
        color = {state: numbers[finer[state]] for state in states}
    folders = [(name, path) for name in packages for path in items_of(packages, name)
               if is_plain_folder(packages, name, path)]
    files = [(name, path, item) for name in packages for path, item in packages[name].items() if isinstance(item, int)]
    joints = [color[states[0]]]
    reps = {joints[0]: states[0]}
    tables = {}
    for at, joint in enumerate(joints):
        tables[at] = {}
        for name, state in moves[reps[joint]].items():
            is_folder, contents = had_at(told.entries, state)
            equal = [folder for folder in folders if is_folder and shows_folder(packages, told, moves, state, folder)]
            if not is_folder:
                tables[at][name] = min((package, path) for package, path, item in files if item == contents[0])
            elif equal:
                tables[at][name] = min(equal)
            else:
                if color[state] not in reps:
                    reps[color[state]] = state
                    joints.append(color[state])
                tables[at][name] = joints.index(color[state])
    return tables


def moves_of(told, state):
    rows = {name: frozenset(step(told.entries, told.table, state, name)) for name in told.all_names}
    return {name: rows[name] for name in rows if had_at(told.entries, rows[name]) != (False, ())}


def shows_folder(packages, told, moves, state, spot):
    """Whether a farm shows below a state just what a package has below a file or a plain folder."""
    if had_at(told.entries, state) != view(packages, spot):
        return False
    names = names_at(packages, {}, spot)
    if sorted(moves[state]) != names:
        return False
    return all(shows_folder(packages, told, moves, moves[state][name], after(packages, {}, spot, name))
               for name in names)


def pairs(packages, old, new):
    """A dict from the pairs of joints that are reached to their least paths."""
    found = walk_together(packages, [old, new])
    return {pair: path for pair, path in found.items() if isinstance(pair[0], int) and isinstance(pair[1], int)}


def keeps(packages, old, new):
    """All keeps."""
    found = sorted(pairs(packages, old, new))
    for many in range(len(found) + 1):
        for keep in itertools.combinations(found, many):
            if len({one for one, other in keep}) == many and len({other for one, other in keep}) == many:
                yield keep


def servers(old, new, keep):
    kept = {other: one for one, other in keep}
    number = itertools.count(max(old.tables()) + 1)
    return {joint: kept[joint] if joint in kept else next(number) for joint in seen(new)}


def finals(old, new, keep):
    """A dict from all links of kept joints, and that of the top, to their final targets."""
    served = servers(old, new, keep)
    found = {(-1, ""): served[new.top]}
    for one, other in keep:
        for name in set(old.tables()[one]) | set(new.tables()[other]):
            target = new.tables()[other].get(name)
            found[(one, name)] = served[target] if isinstance(target, int) else target
    return found


def turns(old, new, keep):
    found = finals(old, new, keep)
    before = {(one, name): old.tables()[one].get(name) for one, name in found if one != -1}
    before[(-1, "")] = old.top
    return sorted(link for link in found if found[link] != before[link])


def stretch(packages, old, new, keep, link):
    """All pairs of the stretch of a link."""
    old_tables, new_tables = old.tables(), new.tables()
    kept = dict(keep)
    joint, name = link
    if joint == -1:
        start = (old.top, new.top)
    else:
        start = (old_tables[joint].get(name), new_tables[kept[joint]].get(name))
    found, left = [start], [start]
    while left:
        pair = left.pop()
        if pair in keep:
            continue
        names = set(names_at(packages, old_tables, pair[0])) | set(names_at(packages, new_tables, pair[1]))
        for name in names:
            longer = (after(packages, old_tables, pair[0], name), after(packages, new_tables, pair[1], name))
            if longer not in found and longer != (None, None):
                found.append(longer)
                left.append(longer)
    return found


def waits(packages, old, new, keep):
    """The tuples (link, link for which it waits), by the words of the document."""
    kept = dict(keep)
    served = servers(old, new, keep)
    turning = turns(old, new, keep)
    found = set()
    for link in turning:
        for pair in stretch(packages, old, new, keep, link):
            if pair in keep:
                continue
            one, other = pair
            for joint, name in turning:
                if (joint, name) == link:
                    continue
                if isinstance(one, int) and one in kept and joint == one:
                    found.add(((joint, name), link))
                if isinstance(other, int) and served[other] in old.tables() and joint == served[other]:
                    found.add((link, (joint, name)))
    return sorted(found)


def ring_length(waiting):
    """The number of links of a shortest ring, None if there is none."""
    after_link = {}
    for one, other in waiting:
        after_link.setdefault(one, set()).add(other)
    best = None
    for start in after_link:
        row, found, many = {start}, set(), 0
        while row:
            row = {other for link in row for other in after_link.get(link, ())} - found
            found |= row
            many += 1
            if start in row:
                best = many if best is None else min(best, many)
                break
    return best


def shows_either(packages, old, new, now):
    """The least path at which a layout shows neither what an old nor what a new one shows, or None."""
    for spots, path in walk_together(packages, [old, new, now]).items():
        views = [view(packages, spot) for spot in spots]
        if views[2] not in views[:2]:
            return path
    return None


def in_order(found):
    return sorted(found, key=order)

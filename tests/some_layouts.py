"""Layouts that several tests use, the same ones at each call."""

import random

from linkfarms.farms import clash
from linkfarms.layouts import Layout, least_layout
from linkfarms.packages import Package
from plain_layouts import is_good_target
from some_farms import random_farm

NAMES = ["a", "b", "c"]


def targets_of(packages):
    return sorted((name, path) for name in packages for path, item in packages[name].items()
                  if is_good_target(packages, (name, path)))


def random_layout(dice, packages, most=4, links=3, spread=1):
    """A layout of up to so many joints, some of them perhaps not seen."""
    joints = dice.sample(range(most * spread), dice.randint(1, most))
    targets = targets_of(packages)
    tables = {}
    for joint in joints:
        names = dice.sample(NAMES, dice.randint(0, min(links, len(NAMES))))
        tables[joint] = {name: random_target(dice, joints, targets) for name in names}
    return Layout(tables, top=dice.choice(joints))


def random_target(dice, joints, targets):
    if targets and dice.random() < 0.3:
        return dice.choice(targets)
    return dice.choice(joints)


def some_packages():
    return {
        "p": Package({"a/a": 1, "a/b": 2, "b/c": None, "c": 1, "d/e": "a"}),
        "q": Package({"a/a": 1, "b/a/b": 3, "c/c/c": 1}),
    }


def random_changes(how_many, seed, most=4, links=3, spread=1):
    """Tuples (packages, old, new) of layouts without any order."""
    dice = random.Random(seed)
    packages = some_packages()
    return [(packages, random_layout(dice, packages, most, links, spread),
             random_layout(dice, packages, most, links, spread)) for _ in range(how_many)]


def near_changes(how_many, seed, most=4):
    """Tuples (packages, old, new) in which the new layout is the old one, renumbered and with a few links changed."""
    dice = random.Random(seed)
    packages = some_packages()
    found = []
    while len(found) < how_many:
        old = random_layout(dice, packages, most)
        joints = old.seen()
        numbers = dict(zip(joints, dice.sample(range(len(joints)), len(joints))))
        tables = {numbers[joint]: {
            name: numbers[target] if isinstance(target, int) else target
            for name, target in old.tables()[joint].items()} for joint in joints}
        for _ in range(dice.randint(0, 3)):
            joint, name = dice.choice(sorted(tables)), dice.choice(NAMES)
            if dice.random() < 0.2:
                tables[joint].pop(name, None)
            else:
                tables[joint][name] = random_target(dice, sorted(tables), targets_of(packages))
        found.append((packages, old, Layout(tables, top=numbers[old.top])))
    return found


def sound_farms(how_many, seed, **told):
    dice = random.Random(seed)
    farms = []
    while len(farms) < how_many:
        farm = random_farm(dice, **told)
        if clash(farm) is None:
            farms.append(farm)
    return farms


def farm_changes(how_many, seed, most=5, **told):
    """Tuples (packages, old, new) of the least layouts of farms that share packages."""
    dice = random.Random(seed)
    found = []
    while len(found) < how_many:
        packages = random_farm(dice, **told)
        parts = [{name: packages[name] for name in packages if dice.random() < 0.7} for _ in range(2)]
        if any(clash(part) is not None for part in parts):
            continue
        old, new = [least_layout(part) for part in parts]
        if max(len(old), len(new)) <= most and (len(old) > 1 or len(new) > 1 or dice.random() < 0.2):
            found.append((packages, old, new))
    return found


def in_another_order(dice, deeds, waiting):
    """The deeds of a plan with its turns in any order that these waits, tuples of links, allow."""
    left = [deed for deed in deeds if deed[0] == "turn"]
    done = [deed for deed in deeds if deed[0] == "make"]
    while left:
        links = [deed[1:3] for deed in left]
        free = [deed for deed in left if not any(one == deed[1:3] and other in links for one, other in waiting)]
        done.append(left.pop(left.index(dice.choice(free))))
    return done + [deed for deed in deeds if deed[0] == "drop"]

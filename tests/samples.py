"""Values that several tests use."""

import random

from linkfarms.packages import Package

LETTERS = "abcdefghijklmnopqrstuvwxyz"


def other_values():
    """Values of other kinds than strings."""
    return [
        None, True, False, 0, 1, -1, 10 ** 39, [], ["a"], (), ("a",), ("a", "b"), {}, {"a": 1}, {1: "a"},
        [[[[[[[["a"]]]]]]]], Package(), Package({"a": 1}), [Package({"a": None})],
    ]


def wrong_paths():
    """Strings that are no paths."""
    return [
        "/", "a/", "/a", "a//b", "a/b/", "//", ".", "A", "aB", "a b", " ", " a", "a ", "a1", "a-b", "a_b", "a.b",
        "abcdefghi", "a/abcdefghi", "abcdefghi/a", "a\n", "\n", "a\nb", "~", "a" * 2000, "a\\b", "`", "{",
    ]


def name_of(number):
    """A name for each number from 0 on."""
    text = ""
    while True:
        number, letter = divmod(number, 26)
        text = LETTERS[letter] + text
        if number == 0:
            return text


def flat(many):
    """So many entries directly below the root."""
    return {name_of(number): number for number in range(many)}


def deep(many):
    """A path of so many names."""
    return "/".join(["a"] * many)


def bounds():
    """Packages at the bounds that the document names."""
    long_names = "/".join(["abcdefgh"] * 10)
    return [
        Package(),
        Package({"a": None}),
        Package({"a": 0}),
        Package({"a": ""}),
        Package({"a": "a"}),
        Package({deep(10): None}),
        Package({long_names: 1}),
        Package({"a": "/".join(["abcdefgh"] * 8)}),
        Package({"a": 999999999999, "b": -999999999999, "c": -1}),
        Package(flat(40)),
        Package({deep(4) + "/" + name_of(number): -number for number in range(36)}),
    ]


def some_packages(many=60):
    """Packages of all kinds of entries, the same ones at each call."""
    dice = random.Random(20)
    return [random_package(dice) for _ in range(many)]


def random_package(dice):
    entries = {}
    for _ in range(dice.randint(0, 9)):
        path = "/".join([dice.choice(["a", "b", "c", "aa", "abcdefgh"]) for _ in range(dice.randint(1, 4))])
        item = dice.choice([None, 0, 7, -12, 10 ** 11, "", "a", "b/c", deep(8)])
        parts = path.split("/")
        above = ["/".join(parts[:many]) for many in range(1, len(parts))]
        if any([entries.get(place) is not None for place in above]):
            continue
        if item is not None and any([other.startswith(path + "/") for other in entries]):
            continue
        entries[path] = item
    return Package(entries)

"""Counting, walking, finding [8]."""

import itertools
import math
import unittest

from linkfarms.counting import count, find, walk
from linkfarms.farms import shown
from linkfarms.packages import Package
from plain import Told, all_paths, entries_of, had_at, order, step, table_of, word
from samples import deep
from some_farms import dealt, full_farm, place_of, random_farms, spiral, window, window_rows

KINDS = ["file", "folder", "clash"]


def tree(**entries):
    """A farm of one package with these entries at single names."""
    return {"p": Package(entries)}


class Count(unittest.TestCase):
    def test_as_in_the_document(self):
        tool = Package({"bin/run": 1, "lib/core": 2, "share": "lib"})
        farm = {"more": Package({"bin": None, "lib/extra": 3}), "tool": tool}
        self.assertEqual(count(farm, 2), 5)
        self.assertEqual([count(farm, many, kind="folder") for many in range(4)], [1, 3, 0, 0])
        self.assertEqual([count(farm, many, kind="file") for many in range(4)], [0, 0, 5, 0])

    def test_nothing_but_the_root(self):
        for many in [0, 1, 200]:
            self.assertEqual([count({}, many, kind=kind) for kind in KINDS], [0, int(many == 0), 0])

    def test_powers(self):
        for names in ["a", "ab", "abc", "abcdefghijklmnopqrstuvwxyz"]:
            farm = tree(**{name: "" for name in names})
            filed = {**farm, "q": Package({"file": 3})}
            for many in range(201):
                self.assertEqual(count(farm, many, kind="folder"), len(names) ** many)
                if many in [0, 1, 2, 7, 199, 200]:
                    self.assertEqual(count(filed, many, kind="folder"), len(names) ** many)
                    self.assertEqual(count(filed, many), len(names) ** (many - 1) if many else 0)
                    self.assertEqual(count(filed, many, kind="clash"), 0)

    def test_sums_of_the_two_before(self):
        farm = {"p": Package({"a": "", "b/a": ""})}
        last, this = 1, 1
        for many in range(201):
            # A path without two b side by side.
            self.assertEqual(count(farm, many, kind="folder"), this)
            last, this = this, last + this

    def test_choices(self):
        # After so many names b, in any places, comes a file.
        steps = [("r" + "/b" * at + "/a", "r" + "/b" * at) for at in range(4)]
        farm = dealt(steps + [("r/b/b/b/z", 1)])
        for many in range(201):
            expected = math.comb(many - 2, 3) if many >= 5 else 0
            self.assertEqual(count(farm, many), expected)

    def test_a_ring(self):
        farm = dealt(spiral(7) + [(place_of(4) + "/end", 1)])
        for many in range(1, 201):
            # One start of the seven has the file after so many steps.
            self.assertEqual(count(farm, many), 1 if many >= 2 else 0)
            self.assertEqual(count(farm, many, kind="folder"), 7)

    def test_each_path_once_whichever_references_lead_along_it(self):
        farm = {name: Package({"a": "", "b": "a", "f": 1}) for name in ["p", "q", "r"]}
        for many in range(1, 60):
            self.assertEqual(count(farm, many, kind="folder"), 2 ** many)
            self.assertEqual(count(farm, many), 2 ** (many - 1))

    def test_windows(self):
        for size in [1, 3, 6]:
            rows = [("a", ""), ("b", ""), ("y", None)] + window_rows(size) + [(place_of(size, "f") + "/y", 1)]
            farm = dealt(rows)
            # Names a and b, with an a in one place, then y.
            for many in range(201):
                self.assertEqual(count(farm, many, kind="clash"), 2 ** (many - 2) if many >= size + 2 else 0)

    def test_all_kinds_and_lengths_by_looking_at_each_path(self):
        for told in [dict(), dict(longer=False, letters=["a", "b"], many=8), dict(packages=6, many=7)]:
            for farm in random_farms(60, 81, **told):
                shows = Told(farm).level(4)
                for many in range(5):
                    for kind in KINDS:
                        rows = [path for path, had in shows if order(path)[0] == many and word(had) == kind]
                        self.assertEqual(count(farm, many, kind=kind), len(rows), (farm, many, kind))

    def test_a_file_is_counted_unless_none_is_named(self):
        farm = {"p": Package({"a": "", "f": 1, "g": None, "h": 1}), "q": Package({"f": 2})}
        self.assertEqual(count(farm, 5), count(farm, 5, kind="file"))
        self.assertEqual([count(farm, 5, kind=kind) for kind in KINDS], [1, 2, 1])

    def test_somewhat_beyond_the_lengths(self):
        self.assertEqual(count(tree(a="", b=""), 300, kind="folder"), 2 ** 300)
        self.assertEqual(count(tree(a="", b=""), -1, kind="folder"), 0)

    def test_six_packages_of_forty_entries(self):
        farm = full_farm(1)
        shows = Told(farm).level(2)
        for many in range(3):
            for kind in KINDS:
                rows = [path for path, had in shows if order(path)[0] == many and word(had) == kind]
                self.assertEqual(count(farm, many, kind=kind), len(rows))
        self.assertGreater(count(farm, 200, kind="folder") + count(farm, 200, kind="clash"), 10 ** 50)


class Walk(unittest.TestCase):
    def test_all_paths_that_show_something(self):
        tool = Package({"bin/run": 1, "lib/core": 2, "share": "lib"})
        farm = {"more": Package({"bin": None, "lib/extra": 3}), "tool": tool, "z": Package({"bin/run": 2})}
        self.assertEqual(list(walk(farm)), [
            ("", "folder"), ("bin", "folder"), ("lib", "folder"), ("share", "folder"), ("bin/run", "clash"),
            ("lib/core", "file"), ("lib/extra", "file"), ("share/core", "file"), ("share/extra", "file"),
        ])
        self.assertEqual(list(walk(farm, kind="clash")), [("bin/run", "clash")])
        self.assertEqual([path for path, kind in walk(farm, kind="folder")], ["", "bin", "lib", "share"])
        self.assertEqual([path for path, kind in walk(farm, kind="file")],
                         ["lib/core", "lib/extra", "share/core", "share/extra"])
        self.assertEqual(list(walk(farm, kind=None)), list(walk(farm)))

    def test_farms_by_looking_at_each_path(self):
        for told in [dict(), dict(longer=False, letters=["a", "b"], many=8), dict(packages=6, many=7)]:
            for farm in random_farms(60, 82, **told):
                shows = [(path, word(had)) for path, had in Told(farm).level(4)]
                for kind in [None] + KINDS:
                    expected = [row for row in shows if kind is None or row[1] == kind]
                    found = list(itertools.islice(walk(farm, kind=kind), len(expected)))
                    self.assertEqual(found, expected, (farm, kind))

    def test_it_ends_with_the_paths_of_two_hundred_names(self):
        farm = {"p": Package({"a": "", "f": 1})}
        rows = list(walk(farm))
        self.assertEqual(len(rows), 1 + 2 * 200)
        self.assertEqual(rows[-2:], [(deep(200), "folder"), (deep(199) + "/f", "file")])
        self.assertEqual(rows[:3], [("", "folder"), ("a", "folder"), ("f", "file")])
        self.assertEqual(list(walk(farm, kind="file")), [("/".join(["a"] * at + ["f"]), "file") for at in range(200)])
        self.assertEqual(list(walk(farm, kind="clash")), [])

    def test_each_path_once_in_path_order(self):
        for farm in random_farms(30, 83):
            found = [path for path, kind in itertools.islice(walk(farm), 500)]
            self.assertEqual(found, sorted(set(found), key=order))

    def test_more_paths_than_can_be_listed(self):
        names = "abcdefghijklmnopqrstuvwxyz"
        farm = {"p": Package({name: "" for name in names}), "q": Package({"file": 1})}
        found = list(itertools.islice(walk(farm), 2000))
        self.assertEqual(found[:2], [("", "folder"), ("a", "folder")])
        self.assertEqual([path for path, kind in found], sorted((path for path, kind in found), key=order))
        self.assertEqual(len(set(found)), 2000)
        self.assertEqual(next(walk(farm, kind="file")), ("file", "file"))

    def test_a_file_far_behind_very_many_folders(self):
        rows = [("d/a", "d"), ("d/b", "d"), ("d/c", "d")] + spiral(100) + [(place_of(99) + "/file", 4)]
        rows = rows + [("start", place_of(0))]
        farm = dealt(rows)
        found = [path for path, kind in walk(farm, kind="file")]
        # From each of the hundred places, and from the start, once or twice in two hundred names.
        expected = [place_of(99 - many) + "/x" * many + "/file" for many in range(99, -1, -1)]
        expected += [place_of(99 - many) + "/x" * (many + 100) + "/file" for many in range(100)]
        expected += ["start" + "/x" * 99 + "/file"]
        expected = [path for path in expected if order(path)[0] <= 200]
        self.assertEqual(found, sorted(expected, key=order))

    def test_among_folders_that_need_more_names(self):
        steps = [("r" + "/b" * at + "/a", "r" + "/b" * at) for at in range(4)]
        farm = dealt(steps + [("r/b/b/b/z", 1)])
        found = list(itertools.islice(walk(farm, kind="file"), 5))
        self.assertEqual([path for path, kind in found], [
            "r/b/b/b/z", "r/a/b/b/b/z", "r/b/a/b/b/z", "r/b/b/a/b/z", "r/b/b/b/a/z",
        ])

    def test_as_many_as_are_counted(self):
        farm = dealt(spiral(5) + [(place_of(4) + "/f", 1), ("c", place_of(0)), ("c/x", 2), ("e/f/g", None)])
        rows = list(walk(farm))
        for kind in KINDS:
            self.assertEqual([row for row in rows if row[1] == kind], list(walk(farm, kind=kind)))
            for many in range(0, 201, 20):
                here = [path for path, shows in rows if shows == kind and order(path)[0] == many]
                self.assertEqual(len(here), count(farm, many, kind=kind))
        for path, kind in rows[:200]:
            self.assertEqual(shown(farm, path), kind)

    def test_farms_with_rings_to_the_end(self):
        self.assertEqual(list(walk({"x": Package({"a": "", "b": 1})}, kind="file")),
                         [("a/" * at + "b", "file") for at in range(200)])
        self.assertEqual(list(walk({"x": Package({"a": ""})})),
                         [("/".join(["a"] * at), "folder") for at in range(201)])
        found = list(walk({"x": Package({"a/b/c/d/e": 1, "a/b/c/d/f": ""})}, kind="file"))
        self.assertEqual(found, [("a/b/c/d/f/" * at + "a/b/c/d/e", "file") for at in range(40)])

    def test_single_names_for_longer_than_is_noted(self):
        for size in [1, 2, 39, 40, 41, 42, 90, 150]:
            for stem in [0, 1, 3, 60]:
                rows = spiral(size, "x", "k") + [(place_of(size - 1, "k") + "/f", 1), (place_of(0, "k") + "/g", 2)]
                rows += spiral(stem, "y", "s")[:-1] if stem else []
                rows += [(place_of(stem - 1, "s") + "/y", place_of(0, "k"))] if stem else []
                farm = dealt(rows)
                table, entries = table_of(farm), entries_of(farm)
                start = place_of(0, "s") if stem else place_of(0, "k")
                found = [path for path, kind in walk(farm, kind="file") if path.split("/")[0] == start]
                expected, state = [], step(entries, table, {""}, start)
                path = start
                for _ in range(199):
                    for name in "fg":
                        if had_at(entries, step(entries, table, state, name))[1]:
                            expected.append(path + "/" + name)
                    name = "y" if step(entries, table, state, "y") else "x"
                    state = step(entries, table, state, name)
                    path += "/" + name
                self.assertEqual(found, [path for path in expected if order(path)[0] <= 200], (size, stem))

    def test_three_names_at_each_folder(self):
        farm = {"p": Package({"a": "", "b": "", "c": ""})}
        paths = [path for path, kind in itertools.islice(walk(farm), 9841)]
        self.assertEqual(paths, all_paths(["a", "b", "c"], 8))
        farm = {"p": Package({"a": "", "b/a": "b", "b/b": "b", "b/c": "", "b/f": 3})}
        for kind in [None, "folder", "file"]:
            expected = [(path, word(had)) for path, had in Told(farm).level(7)]
            expected = [row for row in expected if kind in (None, row[1])]
            self.assertEqual(list(itertools.islice(walk(farm, kind=kind), len(expected))), expected)

    def test_two_at_once(self):
        farm = {"p": Package({"a": "", "b": ""})}
        one, other = walk(farm), walk(farm)
        first = [next(one) for _ in range(5)]
        self.assertEqual([next(other) for _ in range(5)], first)


class Find(unittest.TestCase):
    def test_as_in_the_document(self):
        tool = Package({"bin/run": 1, "lib/core": 2, "share": "lib"})
        farm = {"more": Package({"bin": None, "lib/extra": 3}), "tool": tool}
        self.assertEqual([find(farm, content) for content in range(5)],
                         [None, "bin/run", "lib/core", "lib/extra", None])

    def test_the_least_path_may_lead_by_a_reference(self):
        farm = {"p": Package({"b/f": 1, "a": "b", "c": 2, "d/e/f": -3, "z": "d/e/f", "ab": "c"})}
        self.assertEqual(find(farm, 1), "a/f")
        self.assertEqual(find(farm, 2), "ab")
        self.assertEqual(find(farm, -3), "z")
        self.assertIsNone(find(farm, 3))

    def test_at_a_clash(self):
        farm = {"p": Package({"a": 1, "c": 2}), "q": Package({"a": 2, "b/x": 1, "d": 3}), "r": Package({"d": None})}
        self.assertEqual(find(farm, 2), "a")
        self.assertEqual(find(farm, 1), "a")
        self.assertEqual(find(farm, 3), "d")

    def test_farms_by_looking_at_each_state(self):
        for told in [dict(), dict(longer=False), dict(packages=6, many=7)]:
            for farm in random_farms(80, 84, **told):
                told_states = Told(farm)
                for content in [0, 1, 2]:
                    expected = None
                    for path in told_states.states().values():
                        if content in told_states.has(path)[1]:
                            expected = path
                            break
                    self.assertEqual(find(farm, content), expected, (farm, content))

    def test_the_greatest_contents(self):
        farm = {"p": Package({"a": 999999999999, "b": -999999999999})}
        self.assertEqual(find(farm, 999999999999), "a")
        self.assertEqual(find(farm, -999999999999), "b")
        self.assertIsNone(find(farm, 99999999999))

    def test_a_window(self):
        self.assertIsNone(find(window(5), 1))

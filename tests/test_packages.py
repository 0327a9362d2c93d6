"""[5] Packages, and [10] plain folders."""

import types
import unittest

from linkfarms import packages
from linkfarms.errors import BadEntry, BadPath, NoEntry, NoFile, NoFolder, NoReference, TooMany
from linkfarms.packages import Package
from linkfarms.paths import in_order, parent
from samples import bounds, deep, flat, other_values, some_packages, wrong_paths

ENTRIES = {
    "bin/run": 1, "lib/core": 2, "share": "lib", "lib/empty": None, "more/inner/deep/ref": "", "more/inner/text": -5,
    "more/outer": None, "mor": 0,
}
PLACES = list(ENTRIES) + ["", "bin", "lib", "more", "more/inner", "more/inner/deep"]
ABSENT = ["a", "mo", "moree", "lib/cor", "bin/run/a", "share/core", "lib/empty/a", "more/inner/deep/ref/a", deep(200)]


def all_packages():
    return bounds() + some_packages() + [Package(ENTRIES)]


def above(path):
    """All beginnings of a path but the path itself."""
    places = []
    while path != "":
        path = parent(path)
        places.append(path)
    return places


class Given(unittest.TestCase):
    def test_entries_are_as_given_and_parents_are_added(self):
        package = Package(ENTRIES)
        expected = dict(ENTRIES)
        for path in ["bin", "lib", "more", "more/inner", "more/inner/deep"]:
            expected[path] = None
        self.assertEqual(dict(package.items()), expected)

    def test_no_entries(self):
        for package in [Package(), Package(None), Package({}), Package(entries=None), Package(entries={})]:
            self.assertEqual(list(package.items()), [])
            self.assertEqual(package, Package())

    def test_each_kind_of_item(self):
        for item in [None, 0, -1, 999999999999, -999999999999, "", "a", deep(8), "/".join(["abcdefgh"] * 8)]:
            for path in ["a", "a/b", "abcdefgh", deep(10), "/".join(["abcdefgh"] * 10)]:
                package = Package({path: item})
                self.assertEqual(dict(package.items())[path], item)
                self.assertEqual(len(package), len(path.split("/")))

    def test_the_dict_is_copied_and_stays(self):
        given = {"a/b": 1}
        package = Package(given)
        self.assertEqual(given, {"a/b": 1})
        given["c"] = 2
        del given["a/b"]
        self.assertEqual(dict(package.items()), {"a": None, "a/b": 1})

    def test_the_order_of_the_keys_does_not_matter(self):
        backwards = {path: ENTRIES[path] for path in reversed(list(ENTRIES))}
        self.assertEqual(Package(backwards), Package(ENTRIES))
        self.assertEqual(str(Package(backwards)), str(Package(ENTRIES)))
        self.assertEqual(list(Package(backwards).items()), list(Package(ENTRIES).items()))

    def test_the_limit(self):
        self.assertEqual(Package.LIMIT, 40)
        self.assertEqual(Package().LIMIT, 40)
        self.assertEqual(len(Package(flat(40))), 40)
        self.assertEqual(len(Package({**flat(38), "zz/zz": None})), 40)


class Refused(unittest.TestCase):
    def refuse(self, entries, path):
        with self.assertRaises(BadEntry) as caught:
            Package(entries)
        self.assertEqual(caught.exception.path, path, repr(entries))
        self.assertIs(caught.exception.path is None, path is None)

    def test_values_that_are_no_dicts(self):
        for value in other_values() + ["", "a", "a folder"]:
            if value is not None and not isinstance(value, dict):
                self.refuse(value, None)

    def test_keys_that_are_no_strings(self):
        for key in [0, 1, -1, 10 ** 39]:
            self.refuse({key: 1}, None)
            self.refuse({"a": 1, key: 1}, None)
            self.refuse({key: 1, "A": True, "": None}, None)

    def test_keys_that_are_no_paths_of_1_to_10_names(self):
        for key in wrong_paths() + ["", deep(11), deep(200)]:
            self.refuse({key: 1}, key)
            self.refuse({"a": 1, key: True}, key)
            self.refuse({"a": True, key: None}, key)

    def test_the_least_wrong_key_as_strings_are_ordered(self):
        self.refuse({"b/": 1, "a//b": 1, "c.": 1}, "a//b")
        self.refuse({"z/": 1, deep(11): 1, "aB": 1}, deep(11))
        self.refuse({"a/": 1, "": 1}, "")
        self.refuse({"b/c/d/": 1, "bc/": 1, "B": 1}, "B")
        self.refuse({"a/": 1, "a ": 1, "a!": 1}, "a ")

    def test_items_of_other_kinds(self):
        wrong = [True, False, 10 ** 12, -10 ** 12, 10 ** 39, deep(9), deep(200), [], ["a"], (), (1,), {}, {"a": 1}]
        for item in wrong + wrong_paths() + [Package(), Package({"a": 1})]:
            self.refuse({"a": item}, "a")
            self.refuse({"b/c": item, "a": 1}, "b/c")

    def test_entries_below_files_and_references(self):
        for item in [0, 1, -5, "", "a", "b"]:
            self.refuse({"a": item, "a/b": None}, "a/b")
            self.refuse({"a": item, "a/b/c": 1}, "a/b/c")
            self.refuse({"a/b": item, "a/b/c/d/e": ""}, "a/b/c/d/e")
            self.assertEqual(len(Package({"a": item, "aa/b": 1, "ab": 1})), 4)

    def test_the_first_wrong_path_in_path_order(self):
        self.refuse({"b": True, "a/b": False}, "b")
        self.refuse({"a": 1, "a/b/c": 1, "a/z": 1, "b/b": True}, "a/z")
        self.refuse({"a": 1, "a/b": [], "b": True}, "b")
        self.refuse({"ab/a": True, "a/z": True}, "a/z")
        self.refuse({"a": True, "a/b": 1}, "a")
        self.refuse({"a/b": None, "a/b/c": 10 ** 12, "a": "", "b/a": True}, "a/b")

    def test_keys_come_before_items(self):
        self.refuse({"a": True, "z/": 1}, "z/")
        self.refuse({"a": 1, "a/b": 1, deep(11): 1}, deep(11))

    def test_too_many(self):
        for entries in [flat(41), flat(100), {**flat(38), "zz/zz/zz": 1}, {**flat(39), "zz/zz": None}]:
            with self.assertRaises(TooMany) as caught:
                Package(entries)
            self.assertEqual(caught.exception.limit, 40)

    def test_wrong_entries_come_before_too_many(self):
        self.refuse({**flat(60), "A": 1}, "A")
        self.refuse({**flat(60), "b": True}, "b")
        self.refuse({**flat(60), "b/a": None}, "b/a")
        self.refuse({**flat(60), 1: 1}, None)


class Asked(unittest.TestCase):
    def setUp(self):
        self.package = Package(ENTRIES)

    def test_kind(self):
        kinds = {path: self.package.kind(path) for path in PLACES + ABSENT}
        expected = {path: None for path in ABSENT}
        for path in PLACES:
            item = ENTRIES.get(path)
            expected[path] = "folder" if item is None else "file" if isinstance(item, int) else "reference"
        self.assertEqual(kinds, expected)
        self.assertEqual(Package().kind(""), "folder")
        self.assertEqual(self.package.kind(path="share"), "reference")

    def test_content(self):
        for path in PLACES + ABSENT:
            if isinstance(ENTRIES.get(path), int):
                self.assertEqual(self.package.content(path), ENTRIES[path])
            else:
                with self.assertRaises(NoFile) as caught:
                    self.package.content(path=path)
                self.assertEqual(caught.exception.path, path)

    def test_target(self):
        for path in PLACES + ABSENT:
            if isinstance(ENTRIES.get(path), str):
                self.assertEqual(self.package.target(path), ENTRIES[path])
            else:
                with self.assertRaises(NoReference) as caught:
                    self.package.target(path=path)
                self.assertEqual(caught.exception.path, path)

    def test_names(self):
        expected = {
            "": ["bin", "lib", "mor", "more", "share"], "bin": ["run"], "lib": ["core", "empty"], "lib/empty": [],
            "more": ["inner", "outer"], "more/inner": ["deep", "text"], "more/inner/deep": ["ref"], "more/outer": [],
        }
        for path in PLACES + ABSENT:
            if path in expected:
                self.assertEqual(self.package.names(path), expected[path])
            else:
                with self.assertRaises(NoFolder) as caught:
                    self.package.names(path=path)
                self.assertEqual(caught.exception.path, path)
        self.assertEqual(Package().names(""), [])

    def test_is_plain(self):
        plain = ["bin", "lib", "lib/empty", "more/outer"]
        for path in PLACES + ABSENT:
            self.assertIs(self.package.is_plain(path), path in plain, path)
        for thing in other_values() + wrong_paths():
            self.assertIs(self.package.is_plain(thing=thing), False)
        self.assertIs(Package().is_plain(""), False)
        self.assertIs(Package({"a": 1}).is_plain(""), False)

    def test_is_plain_with_a_reference_at_any_depth(self):
        for many in range(2, 11):
            package = Package({deep(many): "", "b/" + deep(9): 1, "ab": "a"})
            for short in range(1, 11):
                self.assertIs(package.is_plain(deep(short)), False)
            self.assertIs(package.is_plain("b"), True)

    def test_bad_paths_come_first(self):
        for value in other_values() + wrong_paths():
            asked = [self.package.kind, self.package.content, self.package.target, self.package.names]
            for method in asked + [self.package.without, lambda path: self.package.changed(path, True)]:
                with self.assertRaises(BadPath) as caught:
                    method(value)
                self.assertIs(caught.exception.path, value)

    def test_returned_lists_are_new(self):
        package = Package(ENTRIES)
        for ask in [lambda: package.names(""), lambda: package.files, lambda: package.folders,
                    lambda: package.references]:
            before = list(ask())
            ask().append("a")
            ask().clear()
            self.assertEqual(ask(), before)
        self.assertEqual(package, Package(ENTRIES))


class Changed(unittest.TestCase):
    def test_it_is_what_a_package_of_these_entries_is(self):
        items = [None, 5, "", "a/b", True, 10 ** 12, deep(9), []]
        paths = ["a", "b", "a/b", "a/b/c", "abcdefgh", "c/c/c/c", "", deep(10), deep(11)]
        for package in all_packages():
            before = list(package.items())
            for path in paths:
                for item in items:
                    entries = {**dict(before), path: item}
                    self.assertEqual(outcome(package.changed, path, item), outcome(Package, entries))
            self.assertEqual(list(package.items()), before)

    def test_put_in_and_replaced(self):
        package = Package({"a/b": 1})
        self.assertEqual(package.changed("c/d", "a"), Package({"a/b": 1, "c/d": "a"}))
        self.assertEqual(package.changed(path="a/b", item=2), Package({"a/b": 2}))
        self.assertEqual(package.changed("a", None), package)
        self.assertIsNot(package.changed("a", None), package)
        self.assertEqual(package, Package({"a/b": 1}))

    def test_errors(self):
        package = Package({"a/b": 1, "c": "", "a/c/d": 1})
        wrong = [
            ("a", 1, "a/b"), ("a/c", "", "a/c/d"), ("c/d", 1, "c/d"), ("", None, ""), ("a", True, "a"),
            (deep(11), 1, deep(11)), ("a/b/c/d", None, "a/b/c/d"),
        ]
        for path, item, expected in wrong:
            with self.assertRaises(BadEntry) as caught:
                package.changed(path, item)
            self.assertEqual(caught.exception.path, expected)
        for path in ["zz", "zz/zz"]:
            with self.assertRaises(TooMany):
                Package(flat(40)).changed(path, None)
        self.assertEqual(len(Package(flat(40)).changed("a", None)), 40)


class Without(unittest.TestCase):
    def test_an_entry_and_all_below_it(self):
        for package in all_packages():
            before = list(package.items())
            for path, _ in before:
                left = {place: item for place, item in before if place != path and path not in above(place)}
                result = package.without(path)
                self.assertEqual(dict(result.items()), left)
            self.assertEqual(list(package.items()), before)

    def test_parents_and_neighbours_stay(self):
        package = Package({"a/b/c": 1, "a/bb": 2, "ab": 3})
        self.assertEqual(package.without(path="a/b"), Package({"a": None, "a/bb": 2, "ab": 3}))
        self.assertEqual(package.without("a/b/c"), Package({"a/b": None, "a/bb": 2, "ab": 3}))
        self.assertEqual(package.without("a"), Package({"ab": 3}))

    def test_no_entry(self):
        for path in ABSENT + [""]:
            with self.assertRaises(NoEntry) as caught:
                Package(ENTRIES).without(path)
            self.assertEqual(caught.exception.path, path)


class Listed(unittest.TestCase):
    def test_items(self):
        for package in all_packages():
            pairs = package.items()
            self.assertIsInstance(pairs, types.GeneratorType)
            pairs = list(pairs)
            self.assertEqual([path for path, _ in pairs], in_order([path for path, _ in pairs]))
            self.assertTrue(all([isinstance(pair, tuple) for pair in pairs]))
        package = Package({"b": 1, "a/c": "b", "ab": None})
        self.assertEqual(list(package.items()), [("a", None), ("ab", None), ("b", 1), ("a/c", "b")])

    def test_files_folders_references(self):
        for package in all_packages():
            pairs = list(package.items())
            self.assertEqual(package.files, [path for path, item in pairs if isinstance(item, int)])
            self.assertEqual(package.folders, [path for path, item in pairs if item is None])
            self.assertEqual(package.references, [path for path, item in pairs if isinstance(item, str)])

    def test_in(self):
        package = Package(ENTRIES)
        for path in PLACES + ABSENT:
            self.assertIs(path in package, path in PLACES and path != "")
        for thing in other_values() + wrong_paths():
            self.assertIs(thing in package, False)

    def test_len(self):
        self.assertEqual(len(Package()), 0)
        self.assertEqual(len(Package({"a/b/c": 1})), 3)
        self.assertEqual(len(Package(ENTRIES)), 13)

    def test_equal(self):
        several = all_packages()
        for one in several:
            for other in several:
                same = dict(one.items()) == dict(other.items())
                self.assertIs(one == other, same)
                self.assertIs(one != other, not same)
            for thing in other_values() + [dict(one.items()), str(one), list(one.items()), len(one)]:
                if not isinstance(thing, Package):
                    self.assertIs(one == thing, False)
                    self.assertIs(one != thing, True)
        self.assertEqual(Package({"a/b": 1}), Package({"a": None, "a/b": 1}))
        self.assertNotEqual(Package({"a": None}), Package({"a": ""}))
        self.assertNotEqual(Package({"a": None}), Package({"a": 0}))

    def test_repr(self):
        self.assertEqual(repr(Package()), "Package(0 files, 0 folders, 0 references)")
        self.assertEqual(repr(Package(ENTRIES)), "Package(4 files, 7 folders, 2 references)")
        self.assertEqual(repr(Package({"a": 1, "b": "", "c": "", "d": ""})), "Package(1 files, 0 folders, 3 references)")

    def test_the_example_of_the_document(self):
        tool = Package({"bin/run": 1, "lib/core": 2, "share": "lib"})
        more = Package({"bin": None, "lib/extra": 3})
        self.assertEqual(
            [repr(tool), tool.names(""), tool.is_plain("lib"), str(more)],
            ["Package(2 files, 2 folders, 1 references)", ["bin", "lib", "share"], True,
             "bin folder\nlib folder\nlib/extra file 3"])

    def test_each_method_stands_in_the_class(self):
        self.assertEqual(packages.Package.__module__, "linkfarms.packages")
        listed = ["kind", "content", "target", "names", "is_plain", "items", "files", "folders", "references", "changed",
                  "without", "from_text", "__contains__", "__len__", "__eq__", "__repr__", "__str__", "__init__"]
        for name in listed:
            self.assertIn(name, vars(Package))


def outcome(function, *given):
    """What a call returns, or the kind of its error with the fields."""
    try:
        return ("returned", list(function(*given).items()))
    except (BadEntry, TooMany) as error:
        return (error.__class__.__name__, vars(error))

"""The least layout of a sound farm [11]."""

import random
import unittest

from linkfarms.counting import count, walk
from linkfarms.errors import Clash, TooMany
from linkfarms.farms import clash, has
from linkfarms.layouts import Layout, differing, is_least, least_layout, reached
from linkfarms.packages import Package
import plain_layouts as plain
from plain import Told, all_paths
from some_farms import dealt, random_farms, rings_from_one_path, window
from some_layouts import sound_farms


def tables(**entries):
    return least_layout({name: Package(entries[name]) for name in entries}).tables()


class ByHand(unittest.TestCase):
    def test_as_in_the_document(self):
        tool = Package({"bin/run": 1, "lib/core": 2, "share": "lib"})
        farm = {"more": Package({"bin": None, "lib/extra": 3}), "tool": tool}
        self.assertEqual(least_layout({"tool": tool}).tables(),
                         {0: {"bin": ("tool", "bin"), "lib": ("tool", "lib"), "share": ("tool", "lib")}})
        self.assertEqual(least_layout(farm).tables(), {
            0: {"bin": ("tool", "bin"), "lib": 1, "share": 1},
            1: {"core": ("tool", "lib/core"), "extra": ("more", "lib/extra")}})

    def test_one_package(self):
        self.assertEqual(least_layout({}), Layout({0: {}}))
        self.assertEqual(tables(p={}), {0: {}})
        self.assertEqual(tables(p={"a": 1}), {0: {"a": ("p", "a")}})
        self.assertEqual(tables(p={"a": None}), {0: {"a": ("p", "a")}})
        self.assertEqual(tables(p={"a/b/c": 1, "a/d": None}), {0: {"a": ("p", "a")}})

    def test_folders_that_two_packages_share(self):
        self.assertEqual(tables(p={"a/x": 1}, q={"a/y": 2}),
                         {0: {"a": 1}, 1: {"x": ("p", "a/x"), "y": ("q", "a/y")}})
        self.assertEqual(tables(p={"a/x": 1}, q={"a": None}), {0: {"a": ("p", "a")}})
        self.assertEqual(tables(p={"a": None}, q={"a/x": 1}), {0: {"a": ("q", "a")}})
        self.assertEqual(tables(p={"a/x/u": 1}, q={"a/x/v": 2}, r={"a/y": 3}),
                         {0: {"a": 1}, 1: {"x": 2, "y": ("r", "a/y")}, 2: {"u": ("p", "a/x/u"), "v": ("q", "a/x/v")}})

    def test_equal_folders_and_files(self):
        self.assertEqual(tables(q={"b/x": 1}, p={"z/x": 1, "a": None}),
                         {0: {"b": ("p", "z"), "z": ("p", "z"), "a": ("p", "a")}})
        self.assertEqual(tables(p={"a": 1, "b": 1}, o={"c/d": 1}),
                         {0: {"a": ("o", "c/d"), "b": ("o", "c/d"), "c": ("o", "c")}})
        # Tuples are ordered by Python: "a/z" comes ahead of "aa", though it has more names.
        self.assertEqual(tables(p={"aa": 1, "a/z": 1})[0]["aa"], ("p", "a/z"))
        self.assertEqual(tables(p={"aa/x": None, "a/z/x": None, "b/x": None})[0]["b"], ("p", "a/z"))
        # An equal folder that no link can lead to is of no use.
        self.assertEqual(tables(p={"a/x": "b", "b/y": 1, "c/x/y": 1}),
                         {0: {"a": ("p", "c"), "b": ("p", "b"), "c": ("p", "c")}})

    def test_empty_folders(self):
        self.assertEqual(tables(q={"a": None, "b/c": None}, p={"d": None}),
                         {0: {"a": ("p", "d"), "b": ("q", "b"), "d": ("p", "d")}})
        self.assertEqual(tables(p={"a": None, "b": "a", "c/x": "none"}),
                         {0: {"a": ("p", "a"), "b": ("p", "a"), "c": ("p", "a")}})

    def test_references(self):
        self.assertEqual(tables(p={"a": "", "b": 1}), {0: {"a": 0, "b": ("p", "b")}})
        self.assertEqual(tables(p={"a": "a"}), {0: {}})
        self.assertEqual(tables(p={"a": "b", "b": "a"}), {0: {}})
        self.assertEqual(tables(p={"a/b": "a", "a/c": 1}), {0: {"a": 1}, 1: {"b": 1, "c": ("p", "a/c")}})
        self.assertEqual(tables(p={"a/b": "c/d", "c/d": "a"}), {0: {"a": 1, "c": 2}, 1: {"b": 1}, 2: {"d": 1}})
        self.assertEqual(tables(p={"a/x": "b", "b/x": "a"}), {0: {"a": 1, "b": 1}, 1: {"x": 1}})
        self.assertEqual(tables(p={"a/x": "b", "b/x": "", "c": 1}),
                         {0: {"a": 1, "b": 2, "c": ("p", "c")}, 1: {"x": 2}, 2: {"x": 0}})

    def test_a_folder_without_a_plain_one(self):
        # a shows an empty folder, but it has a reference in it, so it is no plain folder.
        self.assertEqual(tables(p={"a/b": "z"}), {0: {"a": 1}, 1: {}})
        self.assertEqual(tables(p={"a/b": "z", "c/d": "z"}), {0: {"a": 1, "c": 1}, 1: {}})
        self.assertEqual(tables(p={"a/b": "z", "c": None}), {0: {"a": ("p", "c"), "c": ("p", "c")}})

    def test_the_root_again(self):
        self.assertEqual(tables(p={"a": "", "b/a": "b", "b/b": "b"}), {0: {"a": 0, "b": 0}})
        self.assertEqual(tables(p={"a": "", "b/a": "b", "b/b": "c"}), {0: {"a": 0, "b": 1}, 1: {"a": 1}})
        self.assertEqual(tables(p={"a": "", "b/a": "b", "b/b": ""}), {0: {"a": 0, "b": 0}})

    def test_names_in_the_order_of_the_least_paths(self):
        found = tables(p={"b/x": "b", "a/z": "c/d", "c/d/y": "c/d", "c/e/v": "c"})
        self.assertEqual(found, {0: {"a": 1, "b": 2, "c": 3}, 1: {"z": 4}, 2: {"x": 2}, 3: {"d": 4, "e": 5},
                                 4: {"y": 4}, 5: {"v": 3}})


class Classes(unittest.TestCase):
    def test_beside_classes_found_plainly(self):
        for seed, told in [(51, dict()), (52, dict(letters=["a", "b"], many=8)), (53, dict(packages=2, depth=4)),
                           (54, dict(longer=False, many=7))]:
            for farm in sound_farms(120, seed, **told):
                layout = least_layout(farm)
                self.assertEqual(layout.tables(), plain.least_tables(farm, Told(farm)), farm)
                self.assertEqual(layout.top, 0)
                self.assertEqual(layout.seen(), list(range(len(layout))))
                self.assertIsNone(differing(farm, layout))
                self.assertIs(is_least(farm, layout), True)
                turned = {name: farm[name] for name in reversed(list(farm))}
                self.assertEqual(least_layout(turned), layout)

    def test_at_all_short_paths_and_at_drawn_ones(self):
        dice = random.Random(55)
        for farm in sound_farms(40, 56):
            layout = least_layout(farm)
            drawn = ["/".join(dice.choice("abc") for _ in range(dice.randint(4, 12))) for _ in range(30)]
            for path in all_paths(["a", "b", "c"], 3) + drawn:
                self.assertEqual(plain.view(farm, reached(farm, layout, path)), has(farm, path), (farm, path))

    def test_links_to_the_least_places(self):
        for farm in sound_farms(60, 57, many=8):
            for joint, name, target in least_layout(farm).links():
                if isinstance(target, tuple):
                    self.assertTrue(plain.is_good_target(farm, target))

    def test_an_argument_stays(self):
        farm = {"p": Package({"a/b": "a"}), "q": Package({"a/c": 1})}
        layout = least_layout(packages=farm)
        layout.tables()[0].clear()
        self.assertEqual(least_layout(farm), layout)
        self.assertEqual(sorted(farm), ["p", "q"])


class Errors(unittest.TestCase):
    def test_clashes(self):
        for seed in [58, 59]:
            for farm in random_farms(150, seed, packages=4):
                path = clash(farm)
                if path is not None:
                    with self.assertRaises(Clash) as caught:
                        least_layout(farm)
                    self.assertIsInstance(caught.exception, RuntimeError)
                    self.assertEqual((caught.exception.farm, caught.exception.path), (None, path))
                    self.assertIsNotNone(differing(farm, Layout({0: {}})))

    def test_a_clash_comes_ahead_of_too_many_states(self):
        for farm in [window(12), dealt(rings_from_one_path([5, 7, 16]))]:
            with self.assertRaises(TooMany):
                least_layout(farm)
            bad = {**farm, "zy": Package({"zz/zz": 1}), "zz": Package({"zz/zz": 2})}
            with self.assertRaises(Clash) as caught:
                least_layout(bad)
            self.assertEqual(caught.exception.path, clash(bad))

    def test_many_joints(self):
        # The states of three rings are the steps of all of them together.
        farm = dealt(rings_from_one_path([5, 7, 9]))
        layout = least_layout(farm)
        self.assertIs(is_least(farm, layout), True)
        self.assertEqual(count(farm, 1, kind="folder"), len(layout.tables()[0]))
        for path, kind in walk(farm):
            if path.count("/") > 2:
                break
            self.assertEqual(kind, "folder")
            self.assertIsNotNone(reached(farm, layout, path))

"""Layouts [10]: tables, errors, what paths reach."""

import itertools
import unittest

from linkfarms.errors import BadLayout, BadPath, NoTarget, TooMany
from linkfarms.farms import has
from linkfarms.layouts import Layout, differing, is_least, least_layout, missing, reached, renumbered
from linkfarms.packages import Package
import plain_layouts as plain
from plain import Told, all_paths
from samples import other_values, wrong_paths
from some_farms import dealt, random_farms, rings_from_one_path, window
from some_layouts import NAMES, near_changes, random_changes, some_packages, sound_farms

BIG = 10 ** 39


class Tables(unittest.TestCase):
    def setUp(self):
        self.layout = Layout({7: {"b": ("p", "x/y"), "a": 3}, 3: {"c": 3}, 0: {}}, top=7)

    def test_what_it_tells(self):
        self.assertEqual(self.layout.tables(), {0: {}, 3: {"c": 3}, 7: {"a": 3, "b": ("p", "x/y")}})
        self.assertEqual(self.layout.top, 7)
        self.assertEqual(self.layout.seen(), [3, 7])
        self.assertEqual(list(self.layout.links()), [(3, "c", 3), (7, "a", 3), (7, "b", ("p", "x/y"))])
        self.assertEqual(len(self.layout), 3)
        self.assertEqual(repr(self.layout), "Layout(3 joints, 3 links)")
        self.assertEqual(repr(Layout({0: {}})), "Layout(1 joints, 0 links)")
        self.assertEqual(Layout({0: {}}).top, 0)
        self.assertEqual(Layout({BIG: {"a": BIG}}, top=BIG).seen(), [BIG])

    def test_joints_are_in_it(self):
        for joint in [0, 3, 7]:
            self.assertIn(joint, self.layout)
        for thing in other_values() + wrong_paths() + [1, 2, -1, "0", (0,), [7], self.layout, {}]:
            self.assertEqual(thing in self.layout, isinstance(thing, int) and not isinstance(thing, bool)
                             and thing in [0, 3, 7])
        both = Layout({0: {}, 1: {}})
        self.assertNotIn(True, both)
        self.assertNotIn(False, both)

    def test_equal(self):
        self.assertEqual(self.layout, Layout({0: {}, 3: {"c": 3}, 7: {"a": 3, "b": ("p", "x/y")}}, top=7))
        others = [Layout({7: {"b": ("p", "x/y"), "a": 3}, 3: {"c": 3}, 0: {}}, top=0),
                  Layout({7: {"b": ("p", "x/y"), "a": 3}, 3: {"c": 3}}, top=7),
                  Layout({7: {"b": ("p", "x"), "a": 3}, 3: {"c": 3}, 0: {}}, top=7),
                  self.layout.tables(), None, 7, "Layout(3 joints, 3 links)"] + other_values()
        for other in others:
            self.assertFalse(self.layout == other)
            self.assertTrue(self.layout != other)

    def test_it_never_changes(self):
        given = {0: {"a": 1}, 1: {}}
        layout = Layout(given)
        given[0]["b"] = 0
        given[2] = {}
        told = layout.tables()
        told[1]["z"] = 0
        told[5] = {}
        layout.seen().append(9)
        self.assertEqual(layout.tables(), {0: {"a": 1}, 1: {}})
        self.assertEqual(layout.seen(), [0, 1])

    def test_by_position_and_by_name(self):
        self.assertEqual(Layout(tables={1: {}}, top=1), Layout({1: {}}, top=1))
        with self.assertRaises(TypeError):
            Layout({1: {}}, 1)


class WrongTables(unittest.TestCase):
    def check(self, expected, tables, **told):
        with self.assertRaises(BadLayout) as caught:
            Layout(tables, **told)
        self.assertIsInstance(caught.exception, ValueError)
        self.assertEqual((caught.exception.joint, caught.exception.name), expected)

    def test_no_tables_at_all(self):
        for thing in other_values() + wrong_paths() + [Layout({0: {}})]:
            self.check((None, None), thing)
        for key in ["a", "0", -1, True, False, -BIG]:
            self.check((None, None), {0: {}, 2: {}, key: {}} if key is not False and key is not True
                       else {2: {}, 5: {}, key: {}}, top=2)
        self.check((None, None), {})

    def test_wrong_tops(self):
        for top in other_values() + wrong_paths() + [2, "0", True, False, BIG]:
            if not isinstance(top, int) or isinstance(top, bool) or top not in [0, 1]:
                self.check((None, None), {0: {}, 1: {"a": "wrong"}}, top=top)

    def test_wrong_tables(self):
        for thing in [None, 1, "a", [], (), ("a", 0), True, Layout({0: {}}), [("a", 0)]]:
            self.check((4, None), {0: {}, 4: thing, 5: {"a": 9}})
        for key in ["", "A", "a/b", "abcdefghi", 1, 0, -1]:
            self.check((4, None), {0: {}, 4: {"a": None, key: 0, "b": 0}, 5: None})

    def test_wrong_targets(self):
        wrong = [None, True, False, 2, -1, "a", "", [], ["p", "a"], ("p",), ("p", "a", "b"), ("p", "a/"), ("P", "a"),
                 ("", "a"), (None, "a"), ("p", None), ("p", 1), (1, "a"), {}, {0: 0}, (), Package(), BIG,
                 Layout({0: {}}), ("p", "/"), ("p/q", "a"), (("p", "a"),), ("own", "A")]
        for target in wrong:
            self.check((1, "b"), {1: {"c": target, "b": target, "a": 0}, 0: {"a": 1}, 3: {"a": target}})
        self.check((0, "a"), {0: {"a": 1}, 2: None}, top=0)
        self.check((2, None), {9: {"a": None}, 4: {}, 2: {"": 4}, 3: None}, top=4)
        self.check((2, "a"), {9: None, 4: {}, 2: {"c": 1, "a": None, "b": 4}, 3: {1: 2}}, top=4)
        self.check((0, "b"), {0: {"c": None, "b": 7, "a": 0}, 1: {1: 1}})
        Layout({0: {"a": ("p", ""), "b": ("own", "a/b/c"), "c": 0, "abcdefgh": ("x", "/".join(["abcdefgh"] * 30))}})

    def test_true_is_not_one(self):
        self.check((0, "a"), {0: {"a": True}, 1: {}})
        self.check((0, "a"), {0: {"a": False}, 1: {}})


class Reached(unittest.TestCase):
    def test_by_hand(self):
        packages = some_packages()
        layout = Layout({2: {"a": ("p", "a"), "b": 9, "c": ("q", "a/a")}, 9: {"b": 2}, 4: {}}, top=2)
        for path, expected in [("", 2), ("a", ("p", "a")), ("a/a", ("p", "a/a")), ("a/c", None), ("b", 9),
                               ("b/b", 2), ("b/b/a/b", ("p", "a/b")), ("b/c", None), ("c", ("q", "a/a")),
                               ("c/a", None), ("a/a/a/a", None), ("z/z", None)]:
            self.assertEqual(reached(packages, layout, path), expected, path)

    def test_beside_a_plain_walk(self):
        paths = all_paths(NAMES, 4)
        for packages, old, new in random_changes(40, 31, spread=3):
            self.assertEqual(old.seen(), plain.seen(old))
            for path in paths:
                self.assertEqual(reached(packages, old, path), plain.reached(packages, old, path))

    def test_missing(self):
        packages = some_packages()
        good = [("p", "a"), ("p", "a/a"), ("p", "b"), ("p", "b/c"), ("q", "c/c"), ("q", "c/c/c")]
        bad = [("p", ""), ("p", "d"), ("p", "d/e"), ("p", "z"), ("p", "a/a/a"), ("r", "a"), ("q", "b/a/c"), ("own", "a")]
        for target in good + bad:
            layout = Layout({3: {"b": target, "c": 4}, 4: {"a": target}}, top=3)
            expected = (3, "b") if target in bad else None
            self.assertEqual(missing(packages, layout), expected)
            self.assertEqual(plain.is_good_target(packages, target), target in good)
        layout = Layout({0: {"a": 0, "b": good[0]}, 5: {"c": bad[0], "b": bad[1], "a": good[0]}, 9: {"a": bad[0]}})
        self.assertEqual(missing(packages, layout), (5, "b"))
        self.assertIsNone(missing({}, Layout({0: {"a": 1}, 1: {}})))
        self.assertEqual(missing({}, Layout({0: {"a": ("p", "a")}})), (0, "a"))

    def test_no_target(self):
        packages = some_packages()
        layout = Layout({0: {}, 5: {"c": ("p", "d"), "d": ("p", "d")}})
        calls = [lambda: reached(packages, layout, "a"), lambda: differing(packages, layout),
                 lambda: is_least(packages, layout)]
        for call in calls:
            with self.assertRaises(NoTarget) as caught:
                call()
            self.assertIsInstance(caught.exception, KeyError)
            self.assertEqual((caught.exception.joint, caught.exception.name), (5, "c"))

    def test_wrong_paths_first(self):
        packages = some_packages()
        layout = Layout({0: {"c": ("p", "d")}})
        for value in other_values() + wrong_paths():
            with self.assertRaises(BadPath) as caught:
                reached(packages, layout, value)
            self.assertIs(caught.exception.path, value)
            with self.assertRaises(BadPath):
                reached(packages=packages, layout=Layout({0: {}}), path=value)


class Differing(unittest.TestCase):
    def test_by_hand(self):
        farm = {"p": Package({"a/x": 1, "b": "a", "c": 2}), "q": Package({"a/y": 1})}
        good = {0: {"a": 1, "b": 1, "c": ("p", "c")}, 1: {"x": ("p", "a/x"), "y": ("q", "a/y")}}
        self.assertIsNone(differing(farm, Layout(good)))
        for joint, name, target, expected in [
                (0, "b", ("p", "a"), "b/y"), (0, "a", ("q", "a"), "a/x"), (0, "c", 1, "c"), (0, "c", 0, "c"),
                (0, "d", 1, "d"), (1, "x", ("p", "c"), "a/x"), (1, "y", 0, "a/y"), (1, "z", 1, "a/z"),
                (0, "a", 0, "a/a"), (0, "a", ("p", "c"), "a"), (1, "y", ("p", "a/x"), None)]:
            tables = {0: dict(good[0]), 1: dict(good[1])}
            tables[joint][name] = target
            self.assertEqual(differing(farm, Layout(tables)), expected, (joint, name, target))
        for joint, name, expected in [(0, "a", "a"), (0, "b", "b"), (0, "c", "c"), (1, "x", "a/x"), (1, "y", "a/y")]:
            tables = {0: dict(good[0]), 1: dict(good[1])}
            del tables[joint][name]
            self.assertEqual(differing(farm, Layout(tables)), expected)
        self.assertEqual(differing(farm, Layout(good, top=1)), "a")

    def test_beside_a_plain_walk(self):
        for seed, told in [(41, dict()), (42, dict(letters=["a", "b"], many=7, depth=4))]:
            for farm in random_farms(150, seed, **told):
                packages = {**some_packages(), **farm}
                for packages, old, new in random_changes(2, seed):
                    packages = {**packages, **farm}
                    self.assertEqual(differing(packages, old), plain.differing(packages, Told(packages), old))

    def test_farms_that_clash(self):
        clashing = {"p": Package({"a": 1, "b": 2}), "q": Package({"b": 3})}
        for target in [("p", "b"), ("q", "b"), 0]:
            layout = Layout({0: {"a": ("p", "a"), "b": target}})
            self.assertEqual(differing(clashing, layout), "b")
            self.assertIs(is_least(clashing, layout), False)
        self.assertEqual(differing(clashing, Layout({0: {}})), "a")
        mixed = {"p": Package({"a/b": 1}), "q": Package({"a": 1})}
        for target in [("p", "a"), ("q", "a"), 0]:
            self.assertEqual(differing(mixed, Layout({0: {"a": target}})), "a")

    def test_plain_folders_given_way_to_joints(self):
        farm = {"p": Package({"a/b/c": 1, "d": 2})}
        least = least_layout(farm)
        self.assertEqual(least.tables(), {0: {"a": ("p", "a"), "d": ("p", "d")}})
        one = Layout({0: {"a": 1, "d": ("p", "d")}, 1: {"b": ("p", "a/b")}})
        two = Layout({0: {"a": 1, "d": ("p", "d")}, 1: {"b": 2}, 2: {"c": ("p", "a/b/c")}})
        for layout in [one, two]:
            self.assertIsNone(differing(farm, layout))
            self.assertIs(is_least(farm, layout), False)
        self.assertIs(is_least(farm, least), True)

    def test_links_of_a_least_layout_bent(self):
        for farm in sound_farms(60, 43):
            layout, told = least_layout(farm), Told(farm)
            for joint, name, target in list(layout.links()):
                for other in [None, 0, *sorted(layout.seen())[1:2]]:
                    tables = layout.tables()
                    if other is None:
                        del tables[joint][name]
                    else:
                        tables[joint][name] = other
                    bent = Layout(tables)
                    path = differing(farm, bent)
                    self.assertEqual(path, plain.differing(farm, told, bent))
                    if path is not None:
                        shown = plain.view(farm, plain.reached(farm, bent, path))
                        self.assertNotEqual(shown, has(farm, path))
                        self.assertIs(is_least(farm, bent), False)


class Renumbered(unittest.TestCase):
    def test_by_hand(self):
        layout = Layout({9: {"b": 4, "a": 7}, 4: {"a": 9}, 7: {"z": 7, "y": ("p", "a")}, 5: {"a": 9}, 0: {}}, top=9)
        self.assertEqual(renumbered(layout), Layout(
            {0: {"a": 1, "b": 2}, 1: {"z": 1, "y": ("p", "a")}, 2: {"a": 0}}, top=0))
        # The order is that of the least paths: b/a comes behind c, which has fewer names.
        layout = Layout({1: {"b": 2, "c": 3}, 2: {"a": 4}, 3: {}, 4: {}}, top=1)
        self.assertEqual(renumbered(layout).tables(), {0: {"b": 1, "c": 2}, 1: {"a": 3}, 2: {}, 3: {}})

    def test_of_layouts_with_other_numbers_the_same(self):
        for packages, old, new in random_changes(100, 44, spread=3) + near_changes(50, 45):
            once = renumbered(old)
            self.assertEqual(renumbered(once), once)
            self.assertEqual(once.seen(), list(range(len(once))))
            self.assertEqual(len(once), len(old.seen()))
            joints = list(old.tables())
            numbers = {joint: 100 - 3 * joint for joint in joints}
            moved = Layout({numbers[joint]: {
                name: numbers[target] if isinstance(target, int) else target
                for name, target in old.tables()[joint].items()} for joint in joints}, top=numbers[old.top])
            self.assertEqual(renumbered(moved), once)
            for spots in plain.walk_together(packages, [old, once]):
                self.assertEqual(plain.view(packages, spots[0]), plain.view(packages, spots[1]))

    def test_a_target_that_is_nowhere_does_not_matter(self):
        layout = Layout({3: {"a": ("z", "z")}}, top=3)
        self.assertEqual(renumbered(layout=layout), Layout({0: {"a": ("z", "z")}}))


class Leasts(unittest.TestCase):
    def test_added_or_doubled_joints_are_not_least(self):
        for farm in sound_farms(60, 46):
            layout = least_layout(farm)
            many = len(layout)
            tables = layout.tables()
            tables[many] = {}
            self.assertIs(is_least(farm, Layout(tables)), False)
            for joint, name, target in layout.links():
                if isinstance(target, int):
                    tables = layout.tables()
                    tables[many] = dict(tables[target])
                    tables[joint][name] = many
                    doubled = Layout(tables)
                    self.assertIsNone(differing(farm, doubled))
                    self.assertIs(is_least(farm, doubled), False)

    def test_no_two_joints_can_be_one(self):
        for farm in sound_farms(60, 47):
            layout = least_layout(farm)
            for one, other in itertools.combinations(layout.seen(), 2):
                tables = layout.tables()
                for joint in tables:
                    tables[joint] = {name: one if target == other else target for name, target in tables[joint].items()}
                self.assertIsNotNone(differing(farm, Layout(tables)))

    def test_with_other_numbers_and_another_top(self):
        farm = {"p": Package({"a": "", "b/c": "b"})}
        self.assertIs(is_least(farm, Layout({8: {"a": 8, "b": 3}, 3: {"c": 3}}, top=8)), True)
        self.assertIs(is_least(farm, Layout({8: {"a": 8, "b": 3}, 3: {"c": 3}}, top=3)), False)
        self.assertIs(is_least(farm, Layout({8: {"a": 8, "b": 8}}, top=8)), False)
        self.assertIs(is_least(packages={}, layout=Layout(tables={5: {}}, top=5)), True)


class Bound(unittest.TestCase):
    def test_too_many_states(self):
        for farm in [window(12), dealt(rings_from_one_path([5, 7, 16]))]:
            for call in [lambda: least_layout(farm), lambda: differing(farm, Layout({0: {}})),
                         lambda: is_least(farm, Layout({0: {}}))]:
                with self.assertRaises(TooMany) as caught:
                    call()
                self.assertEqual(caught.exception.limit, 500)
                self.assertIsInstance(caught.exception, OverflowError)
            with self.assertRaises(NoTarget):
                differing(farm, Layout({0: {"a": ("z", "z")}}))
            with self.assertRaises(NoTarget):
                is_least(farm, Layout({0: {"a": ("z", "z")}}))
        farm = dealt(rings_from_one_path([5, 7, 9]))
        self.assertIsNone(differing(farm, least_layout(farm)))

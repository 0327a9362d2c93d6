"""Sound farms, clashes, states [7]."""

import math
import unittest

from linkfarms.comparing import count_parting, parting
from linkfarms.counting import count, find, walk
from linkfarms.errors import TooMany
from linkfarms.farms import clash, has, names, shown, sources, states
from linkfarms.packages import Package
from plain import Told
from some_farms import dealt, full_farm, place_of, random_farms, spiral, two_loops, two_spirals, window, window_rows


class Clashes(unittest.TestCase):
    def test_none_in_a_sound_farm(self):
        tool = Package({"bin/run": 1, "lib/core": 2, "share": "lib"})
        self.assertIsNone(clash({"more": Package({"bin": None, "lib/extra": 3}), "tool": tool}))
        self.assertIsNone(clash({}))
        self.assertIsNone(clash({"p": Package()}))
        self.assertIsNone(clash({"p": Package({"a": "a", "b": "a"})}))

    def test_each_kind_of_clash(self):
        for one, other, expected in [(1, 2, "a"), (1, None, "a"), (None, 1, "a"), (-1, 1, "a"), (1, "", "a"),
                                     ("", 1, "a"), (1, 1, None), (None, None, None), ("", None, None),
                                     (1, "b", None), (1, "a", None), (None, "b", None)]:
            farm = {"p": Package({"a": one}), "q": Package({"a": other})}
            self.assertEqual(clash(farm), expected, (one, other))
            self.assertEqual(shown(farm, "a") == "clash", expected == "a")

    def test_three_packages(self):
        farm = {"p": Package({"a": 1}), "q": Package({"a": 1}), "r": Package({"a": 1})}
        self.assertIsNone(clash(farm))
        farm["s"] = Package({"b": "a", "c": "b"})
        farm["t"] = Package({"c": 2})
        self.assertEqual(clash(farm), "c")

    def test_the_least_one_in_path_order(self):
        farm = {"p": Package({"b": 1, "a/c": 1, "ab": 1}), "q": Package({"b": 2, "a/c": 2, "ab": 2})}
        self.assertEqual(clash(farm), "ab")
        self.assertEqual(clash({name: farm[name].without("ab") for name in farm}), "b")
        farm = {"p": Package({"b/a": 1, "a/z/z": 1, "a/b": 1}), "q": Package({"b/a": 2, "a/z/z": 2, "a/b": 2})}
        self.assertEqual(clash(farm), "a/b")
        self.assertEqual(clash({name: farm[name].without("a/b") for name in farm}), "b/a")
        farm = {"p": Package({"c": "b", "a/x": "b", "b/y": 1}), "q": Package({"b/y": 2})}
        self.assertEqual(clash(farm), "b/y")
        self.assertEqual(clash({"p": farm["p"], "q": Package({"c/y": 2, "a/x/y": 3})}), "c/y")

    def test_only_below_a_reference(self):
        farm = {"p": Package({"a": "b", "b/x": 1}), "q": Package({"a": "c"}), "r": Package({"c/x": 2})}
        self.assertEqual(clash(farm), "a/x")
        self.assertEqual(clash({**farm, "r": Package({"c/x": 1})}), None)
        self.assertEqual(clash({**farm, "r": Package({"c/x/y": 1})}), "a/x")

    def test_each_farm_by_its_states(self):
        for told in [dict(), dict(longer=False), dict(packages=6, many=7), dict(letters=["a", "b"], many=7, depth=4)]:
            for farm in random_farms(150, 71, **told):
                plain = Told(farm)
                self.assertEqual(clash(farm), plain.clash(), farm)
                self.assertEqual(states(farm), len(plain.states()), farm)

    def test_a_clash_shows(self):
        for farm in random_farms(100, 72):
            path = clash(farm)
            if path is not None:
                self.assertEqual(shown(farm, path), "clash")
                self.assertTrue(len(has(farm, path)[1]) + has(farm, path)[0] > 1)

    def test_two_loops_that_meet_after_many_rounds(self):
        for one in range(1, 9):
            for other in range(1, 9):
                for ends in [(1, 2), (1, None), (None, 1)]:
                    steps = math.lcm(one, other) - 1
                    expected = "t" + "/x" * steps + "/y"
                    self.assertEqual(clash(two_loops(one, other, ends)), expected)
                    self.assertEqual(clash(two_spirals(one, other, ends)), expected)
                self.assertIsNone(clash(two_loops(one, other, (1, 1))))
                self.assertIsNone(clash(two_loops(one, other, (None, None))))

    def test_loops_that_never_meet(self):
        farm = dealt([("t", "r"), ("t", "s"), ("r/x/x/x/x", "r"), ("s/x/x", "s"), ("r/x/x/y", 1), ("s/x/y", 2)])
        self.assertIsNone(clash(farm))
        farm = dealt([("t", "r"), ("t", "s"), ("r/x/x/x/x", "r"), ("s/x/x", "s"), ("r/x/x/x/y", 1), ("s/x/y", 2)])
        self.assertEqual(clash(farm), "t/x/x/x/y")

    def test_very_far_away(self):
        self.assertEqual(clash(two_spirals(101, 103, (1, 2))), "t" + "/x" * (101 * 103 - 1) + "/y")
        self.assertIsNone(clash(two_spirals(101, 103, (2, 2))))

    def test_in_farms_of_too_many_states(self):
        self.assertIsNone(clash(window(30)))
        self.assertEqual(clash({**window(30), "zz": Package({"b/b/b": 5})}), "b/b/b")
        rows = [("a", ""), ("b", "")] + window_rows(30) + [(place_of(30, "f") + "/y", 1), ("y", 2)]
        self.assertEqual(clash(dealt(rows)), "a/" * 31 + "y")
        self.assertIsNone(clash(dealt(rows[:-1] + [("y", 1)])))

    def test_two_conditions_in_farms_of_too_many_states(self):
        for one, other in [(12, 9), (9, 12), (20, 0), (3, 20)]:
            rows = [("a", ""), ("b", "")] + window_rows(one, "a", "f") + window_rows(other, "b", "g")
            farm = dealt(rows + [(place_of(one, "f") + "/y", 1), (place_of(other, "g") + "/y", 2)])
            word = ["b" if left == other else "a" for left in range(max(one, other), -1, -1)]
            self.assertEqual(clash(farm), "/".join(word) + "/y")
            with self.assertRaises(TooMany):
                states(farm)
            same = dealt(rows + [(place_of(one, "f") + "/y", 1), (place_of(other, "g") + "/y", 1)])
            self.assertIsNone(clash(same))

    def test_six_packages_of_forty_entries(self):
        for seed in [1, 2, 3]:
            farm = full_farm(seed)
            self.assertEqual(clash(farm), Told(farm).clash())

    def test_another_order_and_other_names(self):
        for farm in random_farms(60, 73):
            turned = {"z" + name: farm[name] for name in reversed(list(farm))}
            self.assertEqual(clash(farm), clash(turned))
            self.assertEqual(states(farm), states(turned))


class States(unittest.TestCase):
    def test_a_few(self):
        self.assertEqual(states({}), 1)
        self.assertEqual(states({"p": Package({"a": ""})}), 2)
        self.assertEqual(states({"p": Package({"a": "a"})}), 1)
        self.assertEqual(states({"p": Package({"a": "b", "b": 1, "c": 1})}), 4)
        self.assertEqual(states({"p": Package({"a": "b", "b": None, "a": "b", "c": "d"})}), 3)

    def test_clashes_are_shown_too(self):
        self.assertEqual(states({"p": Package({"a": 1, "b": 2}), "q": Package({"a": 2})}), 3)

    def test_references_count_among_the_sources(self):
        # a, b and c show the same, but each is a source of its own.
        farm = dealt([("a", "b"), ("b", "c"), ("c", None)])
        self.assertEqual([sources(farm, path) for path in "abc"], [["a", "b", "c"], ["b", "c"], ["c"]])
        self.assertEqual(states(farm), 4)

    def test_rings(self):
        for many in [1, 2, 5, 100]:
            self.assertEqual(states(dealt(spiral(many))), 1 + 2 * many)

    def test_one_name_to_many(self):
        farm = dealt([("a", place_of(at)) for at in range(30)] + [(place_of(at), None) for at in range(30)])
        self.assertEqual(states(farm), 32)


def farm_of(many):
    """A sound farm with exactly so many states, at least 400: two rings that go round together, and further files."""
    rings = two_spirals(17, 19, (1, 1))
    files = dealt([(place_of(at, "z"), 1) for at in range(many - 400)])
    return {**rings, **{"z" + name: files[name] for name in files}}


def bounded_calls(farm):
    """All calls that raise TooMany(500), each with this farm."""
    return [
        lambda: states(farm),
        lambda: count(farm, 0),
        lambda: count(farm, 3, kind="folder"),
        lambda: next(walk(farm)),
        lambda: next(walk(farm, kind="file")),
        lambda: find(farm, 1),
        lambda: find(farm, 77),
        lambda: parting(farm, farm),
        lambda: parting(farm, {}),
        lambda: parting({}, farm),
        lambda: count_parting(farm, farm, 0),
        lambda: count_parting(farm, {}, 2),
        lambda: count_parting({}, farm, 2),
    ]


class Bound(unittest.TestCase):
    def test_up_to_five_hundred(self):
        for many in [400, 499, 500]:
            self.assertEqual(states(farm_of(many)), many)
            for call in bounded_calls(farm_of(many)):
                call()

    def test_more_than_five_hundred(self):
        for farm in [farm_of(501), farm_of(502), farm_of(560), window(9), window(30)]:
            for call in bounded_calls(farm):
                with self.assertRaises(TooMany) as caught:
                    call()
                self.assertEqual(caught.exception.limit, 500)
                self.assertIsInstance(caught.exception, OverflowError)

    def test_not_where_it_is_not_listed(self):
        for farm in [farm_of(501), window(30)]:
            self.assertEqual(shown(farm, ""), "folder")
            self.assertEqual(has(farm, "q"), (False, ()))
            self.assertIsNone(clash(farm))
            self.assertEqual(sources(farm, ""), [""])
            self.assertIn(names(farm, "")[0], ["a", place_of(0)])

    def test_walk_raises_when_the_first_item_is_asked_for(self):
        steps = walk(window(30))
        with self.assertRaises(TooMany):
            next(steps)

    def test_a_few_states_are_soon_told_among_many_entries(self):
        farm = full_farm(1)
        self.assertEqual(states(farm), len(Told(farm).states()))

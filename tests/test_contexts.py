"""Farms beside whatever is added to them [9]."""

import random
import unittest

from linkfarms.comparing import parting
from linkfarms.contexts import covers, leads, needless, parting_beside, reduced
from linkfarms.entries import is_content
from linkfarms.errors import BadPath
from linkfarms.farms import has, sources
from linkfarms.packages import Package
from linkfarms.paths import is_path
from plain import Told, all_led_to, all_paths, order
from samples import deep
from some_farms import (
    LETTERS, dealt, full_farm, grows, place_of, random_farm, random_farms, random_path, ring, spiral, window,
)

UP_TO_TWO = all_paths(LETTERS, 2)


def plainly_leads(farm, path, target):
    """Whether a file behind the target, with a new name, is shown behind the path too."""
    def behind(place):
        return place + "/new" if place else "new"

    return Told({**farm, "zz": Package({behind(target): 5})}).has(behind(path)) == (False, (5,))


def plainly_covers(one, other):
    told = Told(one)
    for package in other.values():
        for path, item in package.items():
            if isinstance(item, str) and not plainly_leads(one, path, item):
                return False
            if item is None and not told.has(path)[0]:
                return False
            if isinstance(item, int) and item not in told.has(path)[1]:
                return False
    return True


def plainly_needless(farm):
    found = []
    for name in sorted(farm):
        for path, item in farm[name].items():
            if isinstance(item, str) and plainly_covers({**farm, name: farm[name].without(path)}, farm):
                found.append((name, path))
    return found


def pairs_of_farms(how_many, seed, **told):
    """Farms side by side, some of them much alike."""
    dice = random.Random(seed)
    pairs = []
    for _ in range(how_many):
        one, other = random_farm(dice, **told), random_farm(dice, **told)
        pairs += [(one, other), (one, {**one, "x": dice.choice(list(other.values()) or [Package()])})]
        for name in one:
            for path in one[name].references:
                pairs.append((one, {**one, name: one[name].without(path)}))
    return pairs


class Leads(unittest.TestCase):
    def test_a_few(self):
        farm = {"tool": Package({"bin/run": 1, "lib/core": 2, "share": "lib"})}
        self.assertTrue(leads(farm, "share", "lib"))
        self.assertTrue(leads(farm, "share/x/y", "lib/x/y"))
        self.assertFalse(leads(farm, "lib", "share"))
        self.assertFalse(leads(farm, "share/x", "lib/y"))
        self.assertFalse(leads(farm, "share/x", "lib"))
        self.assertFalse(leads(farm, "share", "lib/x"))
        self.assertFalse(leads(farm, "", "lib"))
        self.assertFalse(leads(farm, "shar", "lib"))

    def test_each_path_leads_to_itself(self):
        for farm in [{}, {"p": Package()}, dealt(ring(3)), window(30), full_farm(1)]:
            for path in ["", "a", "q/q", "r/a/b", deep(200)]:
                self.assertIs(leads(farm, path, path), True)

    def test_the_root_leads_to_itself_alone(self):
        farm = {"p": Package({"a": "", "b": "a"})}
        self.assertFalse(leads(farm, "", "a"))
        self.assertTrue(leads(farm, "a", ""))
        self.assertTrue(leads(farm, "b/a/b", ""))
        self.assertTrue(leads(farm, "b/c", "c"))
        self.assertFalse(leads(farm, "b/c", ""))
        self.assertFalse(leads(farm, "c", ""))

    def test_by_rewriting_where_targets_are_not_longer(self):
        dice = random.Random(101)
        for farm in random_farms(60, 101, longer=False):
            for path in UP_TO_TWO + [random_path(dice, LETTERS, 3, 7) for _ in range(3)]:
                led_to = all_led_to(farm, path)
                for target in UP_TO_TWO + sorted(led_to)[:10]:
                    self.assertIs(leads(farm, path, target), target in led_to, (farm, path, target))

    def test_any_references_by_a_file_behind_the_target(self):
        dice = random.Random(102)
        for farm in random_farms(60, 102):
            for path in ["a", "b/c"] + [random_path(dice, LETTERS, 1, 6) for _ in range(6)]:
                for target in ["", "b"] + [random_path(dice, LETTERS, 1, 6) for _ in range(6)]:
                    self.assertIs(leads(farm, path, target), plainly_leads(farm, path, target), (farm, path, target))

    def test_what_is_rewritten_by_way_of_a_few_names(self):
        for farm in random_farms(40, 103):
            for path in ["a", "b", "a/b", "c/a/b"]:
                for target in sorted(all_led_to(farm, path, 6)):
                    self.assertTrue(leads(farm, path, target), (farm, path, target))

    def test_it_leads_on(self):
        for farm in random_farms(20, 104):
            led = {path: [to for to in UP_TO_TWO if leads(farm, path, to)] for path in UP_TO_TWO}
            for path in UP_TO_TWO:
                for middle in led[path]:
                    self.assertLessEqual(set(led[middle]), set(led[path]))
                    self.assertTrue(leads(farm, path + "/c/z" if path else "c/z", middle + "/c/z" if middle else "c/z"))

    def test_sources_are_led_to(self):
        for farm in random_farms(30, 105):
            for path in UP_TO_TWO:
                for place in sources(farm, path):
                    self.assertTrue(leads(farm, path, place))

    def test_long_paths(self):
        farm = {"p": Package({"a": "a/a", "b/b": "b"})}
        self.assertTrue(leads(farm, "a", deep(200)))
        self.assertFalse(leads(farm, deep(200), "a"))
        self.assertFalse(leads(farm, "a", deep(200) + "/b"))
        self.assertTrue(leads(farm, "a/b", deep(200) + "/b"))
        tail = "/".join(["b"] * 200)
        self.assertTrue(leads(farm, tail, "b"))
        self.assertFalse(leads(farm, "b", tail))
        self.assertTrue(leads(farm, tail + "/c", "b/b/c"))
        turned = dealt(spiral(7))
        for many in range(0, 201, 5):
            path = "/".join([place_of(0)] + ["x"] * many)
            self.assertTrue(leads(turned, path, place_of(many % 7)))
            self.assertFalse(leads(turned, path, place_of((many + 1) % 7)))
            self.assertEqual(leads(turned, path, place_of(3) + "/x" * 30), many >= 30 and many % 7 == 5)

    def test_where_a_reference_stands_in_the_way_of_the_target(self):
        farm = {"p": Package({"a": "b", "b": "c/d", "c/d": "a/x"}), "q": Package({"a/x": 1, "b/x/y": "b"})}
        for path in all_paths(["a", "b", "x"], 2) + ["c/d", "c/d/x/y", "b/x/x/y"]:
            for target in all_paths(["a", "b", "x", "y"], 2) + ["a/x/x/x", "c/d/x/x", "b/x/x", "c/d/y"]:
                self.assertIs(leads(farm, path, target), plainly_leads(farm, path, target), (path, target))

    def test_paths_first_then_targets(self):
        for farm in [{}, dealt(ring(3)), window(30)]:
            with self.assertRaises(BadPath) as caught:
                leads(farm, "a/", None)
            self.assertEqual(caught.exception.path, "a/")
            with self.assertRaises(BadPath) as caught:
                leads(farm, "a", [2])
            self.assertEqual(caught.exception.path, [2])


class Covers(unittest.TestCase):
    def test_a_few(self):
        tool = Package({"bin/run": 1, "lib/core": 2, "share": "lib"})
        farm = {"more": Package({"bin": None, "lib/extra": 3}), "tool": tool}
        self.assertIs(covers(farm, {"tool": tool}), True)
        self.assertIs(covers({"tool": tool}, farm), False)
        self.assertTrue(covers(farm, farm))
        self.assertTrue(covers(farm, {}))
        self.assertTrue(covers({}, {}))
        self.assertFalse(covers({}, farm))
        self.assertTrue(covers({}, {"p": Package({"a": "a"})}))
        self.assertFalse(covers({}, {"p": Package({"a": "b"})}))
        self.assertFalse(covers({}, {"p": Package({"a": ""})}))

    def test_each_kind_of_entry(self):
        for item in [None, 1, 2, "b", ""]:
            for other in [None, 1, 2, "b", ""]:
                one, two = {"p": Package({"a": item})}, {"q": Package({"a": other})}
                self.assertIs(covers(one, two), item == other or (item == "" and other is None), (item, other))

    def test_by_files_folders_and_references(self):
        for told in [dict(), dict(longer=False), dict(packages=5, many=6)]:
            for one, other in pairs_of_farms(40, 106, **told):
                self.assertIs(covers(one, other), plainly_covers(one, other), (one, other))
                self.assertIs(covers(other, one), plainly_covers(other, one), (one, other))

    def test_references_that_follow(self):
        farm = {"p": Package({"a": "b", "b": "c", "d": "a/x"})}
        for path, target in [("a", "c"), ("a/x", "c/x"), ("d", "c/x"), ("d/y", "b/x/y"), ("q", "q")]:
            self.assertTrue(covers(farm, dealt([(path, target)])) or "/" in path)
            self.assertTrue(leads(farm, path, target))
        for path, target in [("b", "a"), ("c", "b"), ("a", "d"), ("a", "")]:
            self.assertFalse(covers(farm, dealt([(path, target)])))

    def test_whatever_is_added_to_both(self):
        dice = random.Random(107)
        for one, other in pairs_of_farms(40, 107):
            if covers(one, other):
                more = {"zz" + name: package for name, package in random_farm(dice).items()}
                for path in UP_TO_TWO:
                    left, right = has({**one, **more}, path), has({**other, **more}, path)
                    self.assertLessEqual(right[0], left[0])
                    self.assertLessEqual(set(right[1]), set(left[1]))

    def test_farms_of_too_many_states(self):
        farm = window(30)
        self.assertTrue(covers(farm, farm))
        name = sorted(farm)[0]
        path = farm[name].references[-1]
        self.assertFalse(covers({**farm, name: farm[name].without(path)}, farm))
        self.assertEqual(needless(farm), [])


class PartingBeside(unittest.TestCase):
    def check(self, one, other):
        found = parting_beside(one, other)
        alike = covers(one, other) and covers(other, one)
        self.assertEqual(found is None, alike, (one, other))
        if alike:
            return None
        self.assertIsInstance(found, tuple)
        if found[0] == "alone":
            kind, path = found
            self.assertNotEqual(has(one, path), has(other, path), (one, other))
            return kind
        kind, place, content, path = found
        self.assertEqual(kind, "beside")
        self.assertTrue(is_path(place) and 1 <= order(place)[0] <= 10)
        self.assertTrue(is_content(content))
        more = {"zzzz": Package({place: content})}
        self.assertNotIn("zzzz", {**one, **other})
        self.assertNotEqual(has({**one, **more}, path), has({**other, **more}, path), (one, other, found))
        return kind

    def test_farms_alike(self):
        one = {"p": Package({"a": "b", "b/x": 1})}
        self.assertIsNone(parting_beside(one, {"q": Package({"a": "b"}), "r": Package({"b/x": 1, "c": "c"})}))
        self.assertIsNone(parting_beside({}, {}))
        self.assertIsNone(parting_beside({}, {"p": Package({"a": "a"})}))

    def test_farms_that_part_alone(self):
        one, other = {"p": Package({"a": 1})}, {"p": Package({"a": 2})}
        self.assertEqual(parting_beside(one, other), ("alone", "a"))
        self.assertEqual(parting_beside(one, {}), ("alone", "a"))
        self.assertEqual(parting_beside({}, {"p": Package({"a": None})}), ("alone", "a"))

    def test_farms_that_part_only_beside_a_file(self):
        for target in ["", "b", "a/b", "b/a", deep(8), "/".join(["zzzzzzzz"] * 8)]:
            one = {"p": Package({"a": target}), "q": Package({"a": None})}
            for other in [{"q": Package({"a": None})}, {"q": Package({"a": None}), "r": Package({"a": "c"})}]:
                self.assertIsNone(parting(other, {"q": Package({"a": None})}))
                for left, right in [(one, other), (other, one)]:
                    kind = self.check(left, right)
                    if parting(one, other) is None:
                        self.assertEqual(kind, "beside")

    def test_names_that_are_taken(self):
        letters = "abcdefghijklmnopqrstuvwxyz"
        pairs = [first + second for first in letters for second in letters]
        triples = ["aa" + name for name in letters] + ["ab" + name for name in letters] + ["bac"]
        for taken in [list(letters), pairs[:150], triples]:
            rows = [(name, "x") for name in taken]
            self.assertEqual(self.check(dealt(rows), dealt(rows[:-1])), "beside")
            rows = [("a/b/c", "/".join(taken[at:at + 8])) for at in range(0, len(taken), 8)]
            self.assertEqual(self.check(dealt(rows), dealt(rows[:-1])), "beside")
            rows = [("x", "b")] + [("b/" + name, 0) for name in taken] + [("x/" + name, 0) for name in taken]
            self.assertEqual(self.check(dealt(rows), dealt(rows[1:])), "beside")
            rows = [("x", "b")] + [("b/" + name, 0) for name in taken] + [("x/b/" + name, None) for name in taken]
            self.check(dealt(rows), {})
            self.check({}, dealt(rows))

    def test_any_two_farms(self):
        kinds = {}
        for told in [dict(), dict(longer=False), dict(packages=5, many=6)]:
            for one, other in pairs_of_farms(50, 108, **told):
                for left, right in [(one, other), (other, one)]:
                    kind = self.check(left, right)
                    kinds[kind] = kinds.get(kind, 0) + 1
        self.assertEqual(set(kinds), {None, "alone", "beside"})
        self.assertGreater(min(kinds.values()), 20)

    def test_equal_calls_return_equal_results(self):
        for one, other in pairs_of_farms(20, 109):
            turned = {name: one[name] for name in reversed(list(one))}
            self.assertEqual(parting_beside(one, other), parting_beside(turned, dict(other)))

    def test_farms_of_too_many_states(self):
        farm = window(30)
        name = sorted(farm)[0]
        less = {**farm, name: farm[name].without(farm[name].references[-1])}
        self.assertIn(self.check(farm, less), ["alone", "beside"])
        self.assertIsNone(self.check(farm, dict(farm)))


class Needless(unittest.TestCase):
    def test_a_few(self):
        self.assertEqual(needless({}), [])
        self.assertEqual(needless({"p": Package({"a": "b", "b": 1, "c": None})}), [])
        self.assertEqual(needless({"p": Package({"a": "a", "b": "b/b"})}), [("p", "a")])
        self.assertEqual(needless({"p": Package({"a": "b", "b": "c", "c": "d", "e": "c"})}), [])
        twice = {"q": Package({"z": "b", "a": "b"}), "p": Package({"a": "b"})}
        self.assertEqual(needless(twice), [("p", "a"), ("q", "a")])
        around = {"p": Package({"a": "b", "b": "c"}), "q": Package({"a": "c"})}
        self.assertEqual(needless(around), [("q", "a")])

    def test_in_path_order(self):
        same = {"b/c": "x", "z": "x", "a/a/a": "x", "b/b": "x"}
        farm = {"q": Package(same), "p": Package(same)}
        order_of_one = ["z", "b/b", "b/c", "a/a/a"]
        self.assertEqual(needless(farm), [(name, path) for name in "pq" for path in order_of_one])

    def test_each_farm_by_what_is_covered(self):
        for told in [dict(), dict(longer=False, letters=["a", "b"], many=7), dict(packages=5, many=6)]:
            for farm in random_farms(60, 110, **told):
                self.assertEqual(needless(farm), plainly_needless(farm), farm)

    def test_below_another_reference(self):
        farm = {"p": Package({"a": "b"}), "q": Package({"a/x": "b/x"}), "r": Package({"a/x/y": "b/x/y", "a/x/z": "b"})}
        self.assertEqual(needless(farm), [("q", "a/x"), ("r", "a/x/y")])

    def test_rings(self):
        self.assertEqual(needless(dealt(ring(30))), [])
        both_ways = dealt(ring(30) + [(target, path) for path, target in ring(30)])
        self.assertEqual(len(needless(both_ways)), 60)
        self.assertEqual(sum(len(package.references) for package in reduced(both_ways).values()), 30)


class Reduced(unittest.TestCase):
    def check(self, farm):
        before = {name: str(farm[name]) for name in farm}
        found = reduced(farm)
        self.assertEqual({name: str(farm[name]) for name in farm}, before)
        self.assertEqual(set(found), set(farm))
        for name in farm:
            self.assertIsInstance(found[name], Package)
            for path, item in found[name].items():
                self.assertEqual(item, dict(farm[name].items())[path])
            self.assertEqual(found[name].files, farm[name].files)
            self.assertEqual(found[name].folders, farm[name].folders)
        self.assertEqual(needless(found), [], farm)
        self.assertIsNone(parting_beside(farm, found))
        return found

    def test_a_few(self):
        self.assertEqual(reduced({}), {})
        self.assertEqual(self.check({"p": Package()}), {"p": Package()})
        self.assertEqual(self.check({"p": Package({"a/b": "a/b"})}), {"p": Package({"a": None})})
        twice = {"p": Package({"a": "b", "b": 1}), "q": Package({"a": "b", "b": 1})}
        left = [found.references for found in self.check(twice).values()]
        self.assertEqual(sorted(left), [[], ["a"]])

    def test_farms_without_needless_references_stay(self):
        farm = {"p": Package({"a": "b", "b": 1, "c": None}), "q": Package({"a": "c"})}
        self.assertEqual(self.check(farm), farm)
        self.assertIsNot(self.check(farm), farm)

    def test_any_farms(self):
        for told in [dict(), dict(longer=False, letters=["a", "b"], many=7), dict(packages=5, many=6)]:
            for farm in random_farms(60, 111, **told):
                self.check(farm)

    def test_six_packages_of_forty_entries(self):
        farm = full_farm(2)
        again = {"x" + name: farm[name] for name in ["one", "two"]}
        self.assertEqual(len(needless({**farm, **again})) > 0, True)
        self.check({**farm, **again})

    def test_the_names_in_order(self):
        farm = {"q": Package({"a": "b"}), "p": Package({"a": "b"}), "r": Package()}
        turned = {name: farm[name] for name in ["r", "p", "q"]}
        self.assertEqual(list(reduced(farm)), list(reduced(turned)))
        self.assertEqual(reduced(farm), reduced(turned))

    def test_grown_farms(self):
        dice = random.Random(112)
        package = Package()
        for _ in range(40):
            path, item = random_path(dice, LETTERS, 1, 3), random_path(dice, LETTERS, 0, 2)
            if grows(package, path, item):
                package = package.changed(path, item)
        self.check({"p": package, "q": package, "r": Package({"a/b": "b/a"})})

"""Where two farms part [8]."""

import math
import unittest

from linkfarms.comparing import count_parting, parting
from linkfarms.farms import has
from linkfarms.packages import Package
from plain import Told, all_paths, order, had_at, step
from some_farms import LETTERS, dealt, full_farm, loop, place_of, random_farms, spiral, window_rows


def plain_parting(one, other):
    """The least path at which two farms part, by looking at each pair of sets of sources."""
    left, right = Told(one), Told(other)
    start = (frozenset([""]), frozenset([""]))
    found = {start: ""}
    queue = [start]
    for pair in queue:
        if had_at(left.entries, pair[0]) != had_at(right.entries, pair[1]):
            return found[pair]
        for name in sorted(set(left.all_names + right.all_names)):
            after = (frozenset(step(left.entries, left.table, pair[0], name)),
                     frozenset(step(right.entries, right.table, pair[1], name)))
            if after not in found:
                found[after] = found[pair] + "/" + name if found[pair] else name
                queue.append(after)
    return None


def pairs_of_farms(how_many, seed, **told):
    farms = random_farms(2 * how_many, seed, **told)
    return list(zip(farms[::2], farms[1::2]))


def far_apart(sizes, shift=0, names="x"):
    """Two farms. In the first one t has a file after each number of steps; in the second one rings of these sizes

    go round from t together, and each one has the file after all steps but its last one. In the second ring this
    may be shifted.
    """
    rows = [("u/" + name, "u") for name in names] + [("u/y", 1)]
    starts = []
    for at in range(len(sizes)):
        head = "abcd"[at]
        start = shift if at == 1 else 0
        last = (sizes[at] - 1 + start) % sizes[at]
        rows += [row for name in names for row in spiral(sizes[at], name, head)]
        rows += [(place_of(step, head) + "/y", 1) for step in range(sizes[at]) if step != last]
        starts.append(("t", place_of(0, head)))
    return dealt(rows + [("t", "u")]), dealt(rows + starts)


class Parting(unittest.TestCase):
    def setUp(self):
        self.tool = Package({"bin/run": 1, "lib/core": 2, "share": "lib"})
        self.farm = {"more": Package({"bin": None, "lib/extra": 3}), "tool": self.tool}

    def test_as_in_the_document(self):
        self.assertEqual(parting(self.farm, {"tool": self.tool}), "lib/extra")
        self.assertEqual(count_parting(self.farm, {"tool": self.tool}, 2), 2)

    def test_each_kind_of_difference(self):
        for one, other in [(1, 2), (1, None), (1, "q"), (None, "q"), (1, ""), (-1, 1)]:
            farms = [{"p": Package({"b": item, "c": 7})} for item in [one, other]]
            self.assertEqual(parting(farms[0], farms[1]), "b")
            self.assertEqual(parting(farms[1], farms[0]), "b")
            self.assertEqual(count_parting(farms[0], farms[1], 1), 1)
            for farm in farms:
                self.assertIsNone(parting(farm, dict(farm)))
                self.assertEqual(count_parting(farm, dict(farm), 1), 0)

    def test_clashes_are_compared_by_what_is_there(self):
        one = {"p": Package({"a": 1}), "q": Package({"a": 2})}
        other = {"p": Package({"a": 1}), "q": Package({"a": 3})}
        both = {"p": Package({"a": 1}), "q": Package({"a": None})}
        for left, right in [(one, other), (one, both), (other, both)]:
            self.assertEqual(parting(left, right), "a")
            self.assertEqual(parting(right, left), "a")
        self.assertIsNone(parting(one, {"x": Package({"b": "c", "a": 2}), "y": Package({"a": 1})}))

    def test_the_same_shown_in_other_ways(self):
        one = {"p": Package({"a": "b", "b/x": 1, "b/y/z": 2})}
        other = {"p": Package({"b": "a"}), "q": Package({"a/x": 1, "a/y": "c", "c/z": 2})}
        self.assertEqual(parting(one, other), "c")
        self.assertIsNone(parting({**one, "q": Package({"c": "a/y"})}, other))
        unrolled = {"p": Package({"a/a/a": "a"})}
        self.assertIsNone(parting({"p": Package({"a": ""})}, {"p": Package({"a": "", "b": "b", "c": "d"})}))
        self.assertIsNone(parting({"p": Package({"a/a": "a"})}, unrolled))

    def test_the_least_path_by_looking_at_each_pair(self):
        for told in [dict(), dict(longer=False), dict(letters=["a", "b"], many=8, depth=4), dict(packages=6, many=7)]:
            for one, other in pairs_of_farms(80, 91, **told):
                expected = plain_parting(one, other)
                self.assertEqual(parting(one, other), expected, (one, other))
                self.assertEqual(parting(other, one), expected, (one, other))

    def test_a_farm_that_lacks_one_entry(self):
        for farm in random_farms(60, 92, packages=4):
            for name, package in farm.items():
                for path, item in package.items():
                    less = {**farm, name: package.without(path)}
                    expected = plain_parting(farm, less)
                    self.assertEqual(parting(farm, less), expected)
                    self.assertEqual(parting(less, farm), expected)

    def test_rings_of_different_sizes(self):
        for one in range(1, 9):
            for other in range(1, 9):
                left = dealt([("t", "r")] + loop(one, "r") + loop(other, "s"))
                right = dealt([("t", "s")] + loop(one, "r") + loop(other, "s"))
                # Both show nothing but folders x without end.
                self.assertIsNone(parting(left, right))
                ends = [("r" + "/x" * (one - 1) + "/y", 1), ("s" + "/x" * (other - 1) + "/y", 1)]
                left = dealt([("t", "r")] + loop(one, "r") + loop(other, "s") + ends)
                right = dealt([("t", "s")] + loop(one, "r") + loop(other, "s") + ends)
                least = "t" + "/x" * (min(one, other) - 1) + "/y"
                self.assertEqual(parting(left, right), None if one == other else least)
                self.assertEqual(parting(right, left), None if one == other else least)

    def test_far_away(self):
        for sizes in [(1,), (4,), (2, 3), (7, 8), (4, 6), (11, 13), (3, 5, 7), (2, 3, 5, 7)]:
            one, other = far_apart(sizes)
            expected = "t" + "/x" * (math.lcm(*sizes) - 1) + "/y"
            self.assertEqual(parting(one, other), expected)
            self.assertEqual(parting(other, one), expected)
            self.assertNotEqual(has(one, expected), has(other, expected))

    def test_far_away_among_very_many_paths(self):
        for sizes in [(4,), (3, 5), (7, 8), (2, 3, 5)]:
            one, other = far_apart(sizes, names="wxz")
            many = math.lcm(*sizes) - 1
            self.assertEqual(parting(one, other), "t" + "/w" * many + "/y")
            self.assertEqual(parting(other, one), "t" + "/w" * many + "/y")
            self.assertEqual(count_parting(one, other, many + 1), 0)
            self.assertEqual(count_parting(one, other, many + 2), 3 ** many)

    def test_rings_that_make_up_for_one_another(self):
        for sizes in [(2, 4), (3, 9), (6, 4), (10, 15)]:
            one, other = far_apart(sizes, shift=1)
            self.assertIsNone(parting(one, other))
            self.assertIsNone(parting(other, one))
            self.assertEqual([count_parting(one, other, many) for many in [1, 30, 200]], [0, 0, 0])

    def test_without_packages(self):
        self.assertIsNone(parting({}, {}))
        self.assertIsNone(parting({}, {"p": Package({"a": "b"})}))
        self.assertEqual(parting({}, self.farm), "bin")
        self.assertEqual(parting(self.farm, {}), "bin")

    def test_six_packages_of_forty_entries(self):
        farm = full_farm(1)
        less = {name: farm[name] for name in list(farm)[:5]}
        path = parting(farm, less)
        self.assertNotEqual(has(farm, path), has(less, path))
        self.assertIsNone(parting(farm, {"x" + name: farm[name] for name in reversed(list(farm))}))


class CountParting(unittest.TestCase):
    def test_each_length_by_looking_at_each_path(self):
        for told in [dict(), dict(longer=False), dict(packages=6, many=7)]:
            for one, other in pairs_of_farms(50, 93, **told):
                left, right = Told(one), Told(other)
                for many in range(4):
                    paths = [path for path in all_paths(LETTERS, many) if order(path)[0] == many]
                    expected = len([path for path in paths if left.has(path) != right.has(path)])
                    self.assertEqual(count_parting(one, other, many), expected, (one, other, many))
                    self.assertEqual(count_parting(other, one, many), expected)

    def test_formulas(self):
        one = {"p": Package({"a": "", "b": ""})}
        other = {"p": Package({"a": "", "b": "", "c": ""})}
        third = {"p": Package({"a": "", "b": "", "d": ""})}
        for many in range(201):
            self.assertEqual(count_parting(one, other, many), 3 ** many - 2 ** many)
            self.assertEqual(count_parting(other, one, many), 3 ** many - 2 ** many)
            self.assertEqual(count_parting(other, third, many), 2 * (3 ** many - 2 ** many))
            self.assertEqual(count_parting(one, {}, many), 2 ** many if many else 0)
            self.assertEqual(count_parting(one, one, many), 0)

    def test_different_files(self):
        one = {"p": Package({"a": "", "b": "", "f": 1})}
        other = {"p": Package({"a": "", "b": "", "f": 2})}
        for many in range(201):
            self.assertEqual(count_parting(one, other, many), 2 ** (many - 1) if many else 0)

    def test_rings_of_different_sizes(self):
        for one, other in [(2, 3), (7, 8), (40, 37)]:
            left = dealt([("t", place_of(0))] + spiral(one) + [(place_of(one - 1) + "/y", 1)])
            right = dealt([("t", place_of(0, "s"))] + spiral(other, "x", "s") + [(place_of(other - 1, "s") + "/y", 1)])
            for many in range(2, 201):
                at = many - 2
                below_t = int((at % one == one - 1) != (at % other == other - 1))
                # Beside t, all paths of the one farm begin with r, and those of the other one with s.
                self.assertEqual(count_parting(left, right, many), below_t + one + other + 2, (one, other, many))

    def test_windows(self):
        rows = [("a", ""), ("b", ""), ("y", None)]
        one = dealt(rows + window_rows(4) + [(place_of(4, "f") + "/y", 1)])
        other = dealt(rows + window_rows(4) + [(place_of(4, "f") + "/y", 2)])
        for many in range(6, 60):
            # Words of a and b with an a in one place, and those from one of the places f on.
            self.assertGreaterEqual(count_parting(one, other, many), 2 ** (many - 2))

    def test_the_first_length_is_that_of_the_least_path(self):
        for one, other in pairs_of_farms(60, 94):
            path = parting(one, other)
            counts = [count_parting(one, other, many) for many in range(12)]
            if path is None:
                self.assertEqual(counts, [0] * 12)
            else:
                first = order(path)[0]
                self.assertEqual(counts[:first], [0] * first)
                self.assertGreater(count_parting(one, other, first), 0)

    def test_somewhat_beyond_the_lengths(self):
        one = {"p": Package({"a": "", "b": ""})}
        self.assertEqual(count_parting(one, {}, 250), 2 ** 250)
        self.assertEqual(count_parting(one, {}, -1), 0)

    def test_six_packages_of_forty_entries(self):
        farm = full_farm(1)
        less = {name: farm[name] for name in list(farm)[:5]}
        left, right = Told(farm), Told(less)
        paths = all_paths(left.all_names, 2)
        for many in [1, 2]:
            rows = [path for path in paths if order(path)[0] == many and left.has(path) != right.has(path)]
            self.assertEqual(count_parting(farm, less, many), len(rows))
        self.assertGreater(count_parting(farm, less, 200), 10 ** 40)

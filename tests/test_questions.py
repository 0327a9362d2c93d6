"""Many questions about the same packages, in farms that change between them [2, 6, 8, 9]."""

import copy
import random
import unittest

from linkfarms.comparing import count_parting, parting
from linkfarms.contexts import covers, leads, needless, parting_beside
from linkfarms.counting import count, find, walk
from linkfarms.errors import TooMany
from linkfarms.farms import clash, has, names, shown, sources, states
from linkfarms.layouts import least_layout
from linkfarms.packages import Package
from plain import Told, all_led_to, all_paths, had_at, order, step, word
from some_farms import dealt, place_of, random_farm, random_farms, ring, rings_from_one_path, spiral

PATHS = all_paths(["a", "b", "c"], 4)


def three():
    """A farm of three packages with references in rings."""
    return {"m": Package({"a/a": 1, "b": "a", "c/b": "", "c/c": "b/a"}),
            "n": Package({"a/b": 0, "b/c": "c", "c/a": 2}),
            "o": Package({"a/c": "c/b", "b/a/a": None})}


def rings(one, other):
    """Two loops of so many names from one folder, with a file in each."""
    return {"x": Package({"a" + "/b" * one: "a", "a/c": 1}), "y": Package({"a" + "/b" * other: "a", "a/d": 1})}


def fresh(farm):
    """The same farm of packages of which nothing is known yet."""
    return {name: Package(dict(farm[name].items())) for name in farm}


def answers(farm, paths=PATHS[:40]):
    """What there is to ask of a farm."""
    return ([(shown(farm, path), has(farm, path), sources(farm, path), names(farm, path)) for path in paths],
            clash(farm), states(farm), [find(farm, content) for content in range(3)],
            [count(farm, length, kind=kind) for length in [0, 1, 5, 40, 17] for kind in ["file", "folder", "clash"]])


def plain_counts(told, most, wanted):
    """For each number of names, how many paths lead to what is wanted."""
    row = {frozenset([""]): 1}
    found = []
    for _ in range(most + 1):
        found.append(sum(row[state] for state in row if wanted(had_at(told.entries, state))))
        after = {}
        for state in row:
            for name in told.all_names:
                longer = frozenset(step(told.entries, told.table, state, name))
                if longer:
                    after[longer] = after.get(longer, 0) + row[state]
        row = after
    return found


def plain_parting_counts(one, other, most):
    row = {(frozenset([""]), frozenset([""])): 1}
    found = []
    for _ in range(most + 1):
        found.append(sum(row[pair] for pair in row
                         if had_at(one.entries, pair[0]) != had_at(other.entries, pair[1])))
        after = {}
        for pair in row:
            for name in sorted(set(one.all_names + other.all_names)):
                longer = (frozenset(step(one.entries, one.table, pair[0], name)),
                          frozenset(step(other.entries, other.table, pair[1], name)))
                if longer != (frozenset(), frozenset()):
                    after[longer] = after.get(longer, 0) + row[pair]
        row = after
    return found


class OneFarm(unittest.TestCase):
    def test_all_short_paths(self):
        for farm in [three(), rings(7, 5), rings(6, 5)] + random_farms(25, 201, many=9):
            told = Told(farm)
            for path in PATHS:
                self.assertEqual(shown(farm, path), told.shown(path))
                self.assertEqual(has(farm, path), told.has(path))
                self.assertEqual(sources(farm, path), told.sources(path))
                self.assertEqual(names(farm, path), told.names(path))

    def test_leads_for_all_pairs_of_short_paths(self):
        paths = all_paths(["a", "b", "c"], 2) + ["a/b/c", "c/b/a", "a/a/a", "b/c/b/c"]
        for farm in [three()] + random_farms(40, 202, longer=False, many=7):
            for path in paths:
                # Some targets of the first farm have more names than their own paths; it is enough to follow those
                # paths that are not long.
                led = all_led_to(farm, path, 9)
                for target in paths:
                    self.assertIs(leads(farm, path, target), target in led, (farm, path, target))

    def test_leads_to_what_is_not_there(self):
        farm = {"p": Package({"u": "a/b/c/d", "a/x": None, "v": "u/e", "w": "v/f/g", "a/b": "h", "r": "r/s", "t": "r"})}
        for path, target, expected in [
                ("u", "a/b/c/d", True), ("u", "h/c/d", True), ("u/z", "h/c/d/z", True), ("v", "h/c/d/e", True),
                ("w/k", "a/b/c/d/e/f/g/k", True), ("w", "u/e/f/g", True), ("w", "u/e/f", False), ("u", "a/c/d", False),
                ("a/x/y", "a/x/y", True), ("a/x/y", "a/x/z", False), ("r", "r/s/s/s", True), ("t/q", "r/s/s/q", True),
                ("t", "r/s/t", False), ("h/c/d", "u", False), ("h", "h", True), ("zz/y", "zz/y", True), ("zz", "", False)]:
            self.assertIs(leads(farm, path, target), expected, (path, target))

    def test_leads_beside_a_file_at_the_target(self):
        paths = all_paths(["a", "b", "c"], 3)
        for farm in random_farms(25, 210, many=8, packages=4) + [three()]:
            for target in paths[1::3]:
                told = Told({**farm, "more": Package({target: 7})})
                for path in paths[::2]:
                    self.assertIs(leads(farm, path, target), target in told.sources(path), (farm, path, target))

    def test_long_rings_of_references_to_nothing(self):
        farm = dealt(ring(60) + [("start", "ra/one/two")])
        self.assertTrue(leads(farm, "start/x", "r" + "z" + "/one/two/x"))
        self.assertTrue(leads(farm, "rb/q", "ra/q"))
        self.assertFalse(leads(farm, "rb/q", "start/q"))
        self.assertFalse(leads(farm, "start", "rb/two/one"))


class FarmsThatChange(unittest.TestCase):
    def test_a_dict_that_is_changed_between_two_calls(self):
        dice = random.Random(203)
        pool = [package for farm in random_farms(12, 204, many=6) for package in farm.values()]
        farm = {}
        for _ in range(250):
            name = dice.choice("pqr")
            if name in farm and dice.random() < 0.3:
                del farm[name]
            else:
                farm[name] = dice.choice(pool)
            path = dice.choice(PATHS)
            self.assertEqual(shown(farm, path), shown(fresh(farm), path))
            if dice.random() < 0.3:
                self.assertEqual(answers(farm, PATHS[:13]), answers(fresh(farm), PATHS[:13]))

    def test_in_another_order_and_under_other_names(self):
        for farm in [three()] + random_farms(15, 205, packages=4):
            expected = answers(fresh(farm))
            self.assertEqual(answers(farm), expected)
            turned = {name: farm[name] for name in reversed(list(farm))}
            self.assertEqual(answers(turned), expected)
            moved = dict(zip(sorted(farm, reverse=True), [farm[name] for name in sorted(farm)]))
            self.assertEqual(answers(moved), expected)
            self.assertEqual(answers(farm), expected)

    def test_names_of_packages_are_not_mixed_up(self):
        one, other = Package({"a": "b", "b/x": 1}), Package({"a": "b", "b/x": 1})
        self.assertEqual(needless({"p": one, "q": other}), [("p", "a"), ("q", "a")])
        self.assertEqual(needless({"q": one, "r": other}), [("q", "a"), ("r", "a")])
        self.assertEqual(least_layout({"p": one, "q": other}).tables()[0], {"a": ("p", "b"), "b": ("p", "b")})
        self.assertEqual(least_layout({"z": one, "q": other}).tables()[0], {"a": ("q", "b"), "b": ("q", "b")})
        self.assertEqual(least_layout({"z": one}).tables()[0], {"a": ("z", "b"), "b": ("z", "b")})

    def test_one_package_in_many_farms(self):
        first = Package({"a": "b", "b/x": 1})
        farms = [{"p": first, "q": Package({"b/" + name: content})} for name in "xyz" for content in range(4)]
        farms += [{"p": first}, {"p": first, "q": first}, {"q": first, "p": Package()}]
        expected = [answers(fresh(farm), ["a/x", "a/y", "b/z"]) for farm in farms]
        for _ in range(3):
            for farm, told in zip(farms, expected):
                self.assertEqual(answers(farm, ["a/x", "a/y", "b/z"]), told)
            farms.reverse()
            expected.reverse()
        for one in farms:
            for other in farms:
                self.assertEqual(parting(one, other), parting(fresh(one), fresh(other)))
                self.assertEqual(count_parting(one, other, 2), count_parting(fresh(one), fresh(other), 2))
                self.assertEqual(covers(one, other), covers(fresh(one), fresh(other)))
                self.assertEqual(parting_beside(one, other), parting_beside(fresh(one), fresh(other)))

    def test_packages_made_from_others(self):
        package = Package({"a/b": 1})
        self.assertEqual(shown({"p": package}, "a/c"), "nothing")
        changed = package.changed("a/c", 2)
        self.assertEqual(shown({"p": changed}, "a/c"), "file")
        self.assertEqual(shown({"p": package}, "a/c"), "nothing")
        self.assertEqual(shown({"p": changed.without("a")}, "a/c"), "nothing")
        self.assertEqual(shown({"p": changed}, "a/c"), "file")

    def test_copies(self):
        farm = three()
        expected = answers(farm)
        self.assertEqual(answers(copy.deepcopy(farm)), expected)
        self.assertEqual(answers({name: copy.copy(farm[name]) for name in farm}), expected)
        changed = copy.deepcopy(farm)
        changed["o"] = Package()
        self.assertEqual(answers(changed), answers(fresh(changed)))
        self.assertEqual(answers(farm), expected)

    def test_changing_what_was_returned(self):
        farm = three()
        expected = answers(farm)
        for path in PATHS[:20]:
            sources(farm, path).clear()
            names(farm, path).append("x")
        needless(farm).clear()
        self.assertEqual(answers(farm), expected)

    def test_the_packages_stay_as_they_are(self):
        farm = three()
        before = fresh(farm)
        texts = {name: (str(farm[name]), repr(farm[name]), len(farm[name])) for name in farm}
        answers(farm)
        self.assertEqual(farm, before)
        self.assertEqual({name: (str(farm[name]), repr(farm[name]), len(farm[name])) for name in farm}, texts)

    def test_errors_again_and_again(self):
        farm = dealt(rings_from_one_path([5, 7, 16]))
        for _ in range(3):
            for call in [lambda: states(farm), lambda: count(farm, 3), lambda: next(walk(farm)),
                         lambda: parting({}, farm), lambda: count_parting(farm, {}, 1)]:
                with self.assertRaises(TooMany):
                    call()
            self.assertIsNone(clash(farm))


class Counts(unittest.TestCase):
    def test_each_length_in_any_order(self):
        dice = random.Random(206)
        for farm in [three(), rings(7, 5), rings(6, 5)] + random_farms(12, 207):
            told = Told(farm)
            lengths = list(range(201))
            dice.shuffle(lengths)
            for kind in ["file", "folder", "clash"]:
                expected = plain_counts(told, 200, lambda had: word(had) == kind)
                self.assertEqual([count(farm, length, kind=kind) for length in lengths],
                                 [expected[length] for length in lengths])
                self.assertEqual(count(fresh(farm), 200, kind=kind), expected[200])

    def test_more_states_than_few(self):
        for sizes in [[3, 20], [7, 9], [4, 5, 7]]:
            rows = rings_from_one_path(sizes) + [("kb/f", 1), ("lb/g", 2), ("lc/f", 3)]
            farm = dealt(rows)
            self.assertGreater(states(farm), 64)
            told = Told(farm)
            for kind in ["file", "folder"]:
                expected = plain_counts(told, 60, lambda had: word(had) == kind)
                for length in [0, 1, 2, 3, 15, 16, 17, 31, 32, 33, 34, 50, 60]:
                    self.assertEqual(count(farm, length, kind=kind), expected[length])

    def test_great_numbers(self):
        farm = {"p": Package({"a": "", "b": "", "c": "", "f": 1})}
        for length in [1, 16, 17, 32, 33, 199, 200, 201, 250]:
            self.assertEqual(count(farm, length), 3 ** (length - 1))
            self.assertEqual(count(farm, length, kind="folder"), 3 ** length)


class Partings(unittest.TestCase):
    def test_rings(self):
        one, other = rings(7, 5), rings(6, 5)
        self.assertEqual(parting(one, other), "a" + "/b" * 6 + "/c")
        expected = plain_parting_counts(Told(one), Told(other), 200)
        lengths = list(range(201))
        random.Random(208).shuffle(lengths)
        for length in lengths:
            self.assertEqual(count_parting(one, other, length), expected[length])
            self.assertEqual(count_parting(other, one, length), expected[length])
        self.assertIsNone(parting(one, fresh(one)))
        self.assertEqual(count_parting(one, fresh(one), 200), 0)

    def test_small_farms(self):
        dice = random.Random(209)
        for _ in range(60):
            farm = random_farm(dice, many=7)
            near = {name: farm[name] for name in farm if dice.random() < 0.7}
            for one, other in [(farm, near), (near, farm), (farm, three()), ({}, farm), (farm, {})]:
                expected = plain_parting_counts(Told(one), Told(other), 40)
                for length in [40, 0, 1, 2, 17, 16, 3, 33]:
                    self.assertEqual(count_parting(one, other, length), expected[length])
                path = parting(one, other)
                first = next((length for length, many in enumerate(expected) if many), None)
                if path is None:
                    self.assertIsNone(first)
                else:
                    self.assertEqual(order(path)[0], first if first is not None else order(path)[0])
                    self.assertNotEqual(has(one, path), has(other, path))

    def test_rings_of_many_sizes(self):
        for one, other in [(3, 4), (5, 7), (11, 13)]:
            left = dealt(spiral(one, "x", "k") + [(place_of(at, "k") + "/f", at % 2) for at in range(one)] + [("t", "ka")])
            right = dealt(spiral(other, "x", "k") + [(place_of(at, "k") + "/f", at % 2) for at in range(other)]
                          + [("t", "ka")])
            expected = plain_parting_counts(Told(left), Told(right), 100)
            self.assertEqual([count_parting(left, right, length) for length in range(101)], expected)

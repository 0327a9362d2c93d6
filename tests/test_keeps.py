"""Keeps [12] and what waits for what [13]."""

import unittest

from linkfarms.errors import BadKeep, NoTarget, TooMany
from linkfarms.keeps import (fewest_makes, greatest_keep, is_keep, meeting, pairs, ring, servers, turns, waits)
from linkfarms.layouts import Layout
from linkfarms.packages import Package
from linkfarms.plans import plan
import plain_layouts as plain
from samples import other_values, wrong_paths
from some_layouts import farm_changes, near_changes, random_changes, some_packages

WITH_KEEP = [servers, turns, waits, ring]
FILES = {"p": Package({"d": 1, "f": 2, "g/h": None})}


def all_changes():
    return (random_changes(120, 61) + near_changes(120, 62) + farm_changes(40, 63, packages=4, many=6)
            + random_changes(60, 64, spread=4) + random_changes(12, 65, most=6))


def exchange():
    """Two joints below the top lead to one another's files, and the other way round afterwards."""
    old = Layout({0: {"a": 1, "b": 2}, 1: {"x": ("p", "d")}, 2: {"y": ("p", "f")}})
    new = Layout({0: {"a": 2, "b": 1}, 1: {"x": ("p", "d")}, 2: {"y": ("p", "f")}})
    return FILES, old, new


class Pairs(unittest.TestCase):
    def test_by_hand(self):
        packages, old, new = exchange()
        self.assertEqual(pairs(packages, old, new), [(0, 0), (1, 2), (2, 1)])
        self.assertEqual(meeting(packages, old, new, (0, 0)), "")
        self.assertEqual(meeting(packages, old, new, (1, 2)), "a")
        self.assertEqual(meeting(packages, old, new, (2, 1)), "b")
        for pair in [(1, 1), (0, 1), (5, 5), (0, 0, 0), (), (True, 2), (1, True), None, [1, 2], ([], 2)]:
            self.assertIsNone(meeting(packages, old, new, pair))

    def test_the_least_path(self):
        packages = FILES
        ring_of_two = Layout({0: {"b": 1, "a": 0}, 1: {"b": 0, "a": 1}})
        ring_of_three = Layout({0: {"b": 1, "a": 0}, 1: {"b": 2, "a": 1}, 2: {"b": 0, "a": 2}})
        found = {pair: meeting(packages, ring_of_two, ring_of_three, pair) for pair in
                 pairs(packages, ring_of_two, ring_of_three)}
        self.assertEqual(found, {(0, 0): "", (1, 1): "b", (0, 2): "b/b", (1, 0): "b/b/b", (0, 1): "b/b/b/b",
                                 (1, 2): "b/b/b/b/b"})

    def test_beside_a_plain_walk_and_both_ways_round(self):
        for packages, old, new in all_changes():
            expected = plain.pairs(packages, old, new)
            found = pairs(packages, old, new)
            self.assertEqual(found, sorted(expected))
            self.assertEqual(pairs(packages, new, old), sorted((two, one) for one, two in found))
            for one in old.tables():
                for other in new.tables():
                    path = meeting(packages, old, new, (one, other))
                    self.assertEqual(path, expected.get((one, other)))
                    self.assertEqual(meeting(packages, new, old, (other, one)), path)

    def test_returned_lists_are_new(self):
        packages = FILES
        old = Layout({0: {"a": 1, "b": 2}, 1: {"x": 1}, 2: {"x": 2, "y": 1}})
        new = Layout({0: {"a": 1, "b": 2}, 1: {"x": 2}, 2: {"x": 1, "y": 1}})
        keep = ((0, 0), (1, 1), (2, 2))
        for call in [lambda: pairs(packages, old, new), lambda: servers(packages, old, new, ()),
                     lambda: turns(packages, old, new, keep), lambda: waits(packages, old, new, keep)]:
            expected = call()
            call().clear()
            self.assertTrue(expected)
            self.assertEqual(call(), expected)
        ring(packages, old, new, keep).clear()
        self.assertEqual(len(ring(packages, old, new, keep)), 2)


class Keeps(unittest.TestCase):
    def test_any_value(self):
        packages, old, new = exchange()
        for keep in [(), ((0, 0),), ((0, 0), (1, 2)), ((0, 0), (1, 2), (2, 1)), ((1, 2), (2, 1))]:
            self.assertIs(is_keep(packages, old, new, keep), True)
        wrong = [[], [(0, 0)], ((0, 0), (0, 0)), ((1, 2), (0, 0)), ((1, 1),), ((0, 1),), ((0, 0), [1, 2]), ((0,),),
                 ((0, 0, 0),), (0, 0), ((False, 0),), ((0, False),), ((True, 2),), ((1, 2), (True, 2)), ((3, 3),),
                 ((-1, 0),), (None,), (("0", 0),), ((0, None),), (([], {}),), {(): ()}, ((0, ()),), ((10 ** 39, 0),)]
        for thing in wrong + other_values() + wrong_paths():
            if thing == ():
                continue
            self.assertIs(is_keep(packages, old, new, thing), False, thing)
            for function in WITH_KEEP:
                with self.assertRaises(BadKeep) as caught:
                    function(packages, old, new, thing)
                self.assertIsInstance(caught.exception, ValueError)
            if thing is not None:
                with self.assertRaises(BadKeep):
                    plan(packages, old, new, keep=thing)

    def test_no_joint_twice(self):
        packages = FILES
        old = Layout({0: {"a": 1, "b": 1}, 1: {}})
        new = Layout({0: {"a": 1, "b": 2}, 1: {}, 2: {}})
        self.assertEqual(pairs(packages, old, new), [(0, 0), (1, 1), (1, 2)])
        self.assertIs(is_keep(packages, old, new, ((1, 1), (1, 2))), False)
        self.assertIs(is_keep(packages, new, old, ((1, 1), (2, 1))), False)
        self.assertIs(is_keep(packages, new, old, ((2, 1),)), True)

    def test_all_keeps_and_no_other_tuples(self):
        for packages, old, new in random_changes(20, 66, most=3):
            keeps = set(plain.keeps(packages, old, new))
            found = [(one, other) for one in old.tables() for other in new.tables()]
            things = [()] + [(pair,) for pair in found] + [(pair, more) for pair in found for more in found]
            for thing in things:
                self.assertEqual(is_keep(packages, old, new, thing), thing in keeps)


class Servers(unittest.TestCase):
    def test_by_hand(self):
        old = Layout({0: {"a": 4}, 4: {}, 9: {}})
        new = Layout({5: {"a": 2, "b": 8}, 2: {}, 8: {"c": 3}, 3: {}, 1: {}}, top=5)
        self.assertEqual(servers(FILES, old, new, ()), {2: 10, 3: 11, 5: 12, 8: 13})
        self.assertEqual(servers(FILES, old, new, ((0, 5),)), {2: 10, 3: 11, 5: 0, 8: 12})
        self.assertEqual(servers(FILES, old, new, ((0, 5), (4, 2))), {2: 4, 3: 10, 5: 0, 8: 11})

    def test_beside_the_words(self):
        for packages, old, new in all_changes():
            for keep in plain.keeps(packages, old, new):
                self.assertEqual(servers(packages, old, new, keep), plain.servers(old, new, keep))
                self.assertEqual(turns(packages, old, new, keep), plain.turns(old, new, keep))

    def test_turns_by_hand(self):
        packages, old, new = exchange()
        self.assertEqual(turns(packages, old, new, ()), [(-1, "")])
        self.assertEqual(turns(packages, old, new, ((0, 0),)), [(0, "a"), (0, "b")])
        self.assertEqual(turns(packages, old, new, ((1, 2), (2, 1))),
                         [(-1, ""), (1, "x"), (1, "y"), (2, "x"), (2, "y")])
        self.assertEqual(turns(packages, old, new, ((0, 0), (1, 2), (2, 1))),
                         [(1, "x"), (1, "y"), (2, "x"), (2, "y")])
        self.assertEqual(turns(packages, old, old, ((0, 0), (1, 1), (2, 2))), [])
        self.assertEqual(turns(packages, old, old, ((0, 0), (1, 1))), [(0, "b")])


class Waits(unittest.TestCase):
    def test_the_empty_keep_waits_for_nothing(self):
        for packages, old, new in all_changes():
            self.assertEqual(waits(packages, old, new, ()), [])
            self.assertIsNone(ring(packages, old, new, ()))
            expected = [] if (old.top, new.top) in () else [(-1, "")]
            self.assertEqual(turns(packages, old, new, ()), expected)

    def test_by_hand(self):
        # Joint 1 moves from a to b/c: the new link is to be there before the old one goes.
        packages = FILES
        old = Layout({0: {"a": 1, "b": 2}, 1: {"x": ("p", "d")}, 2: {"c": 1}})
        new = Layout({0: {"a": ("p", "d"), "b": 2}, 1: {"x": ("p", "f")}, 2: {"c": 1}})
        keep = ((0, 0), (1, 1), (2, 2))
        # The link a shows what 1 shows until it turns, so x in 1 waits for it.
        self.assertEqual(turns(packages, old, new, keep), [(0, "a"), (1, "x")])
        self.assertEqual(waits(packages, old, new, keep), [((1, "x"), (0, "a"))])
        # The other way round a is to show what 1 will show, so it waits until x in 1 has turned.
        self.assertEqual(waits(packages, new, old, keep), [((0, "a"), (1, "x"))])

    def test_a_ring_by_hand(self):
        packages, old, new = exchange()
        keep = ((0, 0), (1, 2), (2, 1))
        self.assertEqual(waits(packages, old, new, keep), [])
        old = Layout({0: {"a": 1, "b": 2}, 1: {"x": 1}, 2: {"x": 2, "y": 1}})
        new = Layout({0: {"a": 1, "b": 2}, 1: {"x": 2}, 2: {"x": 1, "y": 1}})
        keep = ((0, 0), (1, 1), (2, 2))
        self.assertEqual(turns(packages, old, new, keep), [(1, "x"), (2, "x")])
        self.assertEqual(waits(packages, old, new, keep), [((1, "x"), (2, "x")), ((2, "x"), (1, "x"))])
        self.assertEqual(len(ring(packages, old, new, keep)), 2)

    def test_beside_a_plain_walk_over_stretches(self):
        rings = 0
        for packages, old, new in all_changes():
            for keep in plain.keeps(packages, old, new):
                found = waits(packages, old, new, keep)
                self.assertEqual(found, plain.waits(packages, old, new, keep), (old.tables(), new.tables(), keep))
                shortest = ring(packages, old, new, keep)
                if shortest is None:
                    self.assertIsNone(plain.ring_length(found))
                else:
                    rings += 1
                    self.assertEqual(len(shortest), plain.ring_length(found))
                    self.assertIsInstance(shortest, list)
                    for at in range(len(shortest)):
                        self.assertIn((shortest[at], shortest[at - 1]), found)
                    self.assertEqual(ring(packages, old, new, keep), shortest)
        self.assertGreater(rings, 100)

    def test_the_order_of_the_keys_does_not_matter(self):
        for packages, old, new in near_changes(40, 67):
            turned = {name: packages[name] for name in reversed(list(packages))}
            layouts = [Layout({joint: dict(reversed(list(table.items())))
                               for joint, table in reversed(list(layout.tables().items()))}, top=layout.top)
                       for layout in [old, new]]
            for keep in plain.keeps(packages, old, new):
                for function in WITH_KEEP:
                    self.assertEqual(function(turned, *layouts, keep), function(packages, old, new, keep))
            self.assertEqual(greatest_keep(turned, *layouts), greatest_keep(packages, old, new))


class Greatest(unittest.TestCase):
    def test_as_great_as_by_trying_all(self):
        for packages, old, new in all_changes():
            if max(len(old), len(new)) > 5:
                continue
            best = max(len(keep) for keep in plain.keeps(packages, old, new)
                       if plain.ring_length(plain.waits(packages, old, new, keep)) is None)
            keep = greatest_keep(packages, old, new)
            self.assertEqual(len(keep), best)
            self.assertIs(is_keep(packages, old, new, keep), True)
            self.assertIsNone(ring(packages, old, new, keep))
            self.assertEqual(greatest_keep(packages, old, new), keep)
            self.assertEqual(fewest_makes(packages, old, new), len(plain.seen(new)) - best)

    def test_not_all_pairs_where_they_would_be_in_a_ring(self):
        packages = FILES
        old = Layout({0: {"a": 1, "b": 2}, 1: {"x": 1}, 2: {"x": 2, "y": 1}})
        new = Layout({0: {"a": 1, "b": 2}, 1: {"x": 2}, 2: {"x": 1, "y": 1}})
        self.assertEqual(len(greatest_keep(packages, old, new)), 2)
        self.assertEqual(fewest_makes(packages, old, new), 1)

    def test_too_many_joints(self):
        five = Layout({0: {}, 1: {}, 2: {}, 3: {}, 9: {}})
        six = Layout({0: {}, 1: {}, 2: {}, 3: {}, 9: {}, 10: {}})
        self.assertEqual(greatest_keep(FILES, five, five), ((0, 0),))
        for old, new in [(six, five), (five, six), (six, six)]:
            for function in [greatest_keep, fewest_makes, plan]:
                with self.assertRaises(TooMany) as caught:
                    function(FILES, old, new)
                self.assertEqual(caught.exception.limit, 5)
            self.assertEqual(turns(FILES, old, new, ((0, 0),)), [])


class NoTargets(unittest.TestCase):
    def test_the_old_layout_first_and_ahead_of_all(self):
        good = Layout({0: {}})
        bad = Layout({0: {}, 3: {"b": ("p", "z"), "c": ("z", "z")}})
        worse = Layout({0: {}, 2: {"a": ("p", "")}, 4: {}, 5: {}, 6: {}, 7: {}})
        calls = [lambda one, two: pairs(FILES, one, two), lambda one, two: meeting(FILES, one, two, (0, 0)),
                 lambda one, two: is_keep(FILES, one, two, None), lambda one, two: greatest_keep(FILES, one, two),
                 lambda one, two: fewest_makes(FILES, one, two), lambda one, two: plan(FILES, one, two),
                 lambda one, two: plan(FILES, one, two, keep=7)]
        calls += [lambda one, two, function=function: function(FILES, one, two, 7) for function in WITH_KEEP]
        for call in calls:
            for one, two, expected in [(bad, worse, (3, "b")), (worse, bad, (2, "a")), (good, bad, (3, "b")),
                                       (good, worse, (2, "a")), (bad, good, (3, "b"))]:
                with self.assertRaises(NoTarget) as caught:
                    call(one, two)
                self.assertEqual((caught.exception.joint, caught.exception.name), expected)

    def test_by_name(self):
        packages, old, new = exchange()
        told = {"new": new, "packages": packages, "old": old}
        keep = ((0, 0), (1, 2), (2, 1))
        for function in WITH_KEEP:
            self.assertEqual(function(keep=keep, **told), function(packages, old, new, keep))
        for function in [pairs, greatest_keep, fewest_makes]:
            self.assertEqual(function(**told), function(packages, old, new))
        self.assertEqual(meeting(pair=(1, 2), **told), "a")
        self.assertIs(is_keep(thing=keep, **told), True)

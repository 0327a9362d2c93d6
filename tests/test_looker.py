"""Right and straight plans [14]."""

import random
import unittest

from linkfarms.errors import NoTarget
from linkfarms.keeps import ring, waits
from linkfarms.layouts import Layout, renumbered
from linkfarms.looker import fault, is_straight
from linkfarms.packages import Package
from linkfarms.plans import plan, stops
import plain_layouts as plain
from samples import other_values, wrong_paths
from some_layouts import farm_changes, in_another_order, near_changes, random_changes, random_target, targets_of
from test_keeps import FILES, exchange


def changes():
    return (random_changes(60, 81) + near_changes(80, 82) + farm_changes(40, 83, packages=4, many=6)
            + random_changes(30, 84, spread=4))


def plain_fault(packages, old, new, deeds):
    """What is wrong first with a list of deeds that have the form of deeds."""
    steps = stops(old, deeds)
    layout = next(steps)
    for at, deed in enumerate(deeds):
        try:
            layout = next(steps)
        except ValueError:
            return (at, None)
        bad = [target for table in layout.tables().values() for target in table.values()
               if isinstance(target, tuple) and not plain.is_good_target(packages, target)]
        if bad:
            return (at, None)
        path = plain.shows_either(packages, old, new, layout)
        if path is not None:
            return (at, path)
    path = plain.shows_either(packages, new, new, layout)
    if path is not None:
        return (len(deeds), path)
    return None if plain.seen(layout) == sorted(layout.tables()) else (len(deeds), None)


def plain_straight(deeds):
    kinds = [deed[0] for deed in deeds]
    links = [deed[1:3] for deed in deeds if deed[0] == "turn"]
    return ("make" not in kinds[1:] and "drop" not in kinds[:-1] and len(set(links)) == len(links))


class Fault(unittest.TestCase):
    def test_none_for_plans(self):
        for packages, old, new in changes():
            for keep in plain.keeps(packages, old, new):
                if ring(packages, old, new, keep) is None:
                    deeds = plan(packages, old, new, keep=keep)
                    self.assertIsNone(fault(packages, old, new, deeds))
                    self.assertIs(is_straight(deeds), True)

    def test_turns_in_any_order_that_waits_allows(self):
        dice = random.Random(85)
        for packages, old, new in changes():
            for keep in list(plain.keeps(packages, old, new))[-2:]:
                if ring(packages, old, new, keep) is not None:
                    continue
                deeds = plan(packages, old, new, keep=keep)
                done = in_another_order(dice, deeds, waits(packages, old, new, keep))
                self.assertIsNone(fault(packages, old, new, done))

    def bent(self, dice, packages, old, new, deeds):
        """A plan with deeds left out, exchanged, doubled, changed or put in."""
        deeds = list(deeds)
        for _ in range(dice.randint(1, 2)):
            kind = dice.choice(["leave", "exchange", "double", "change", "put"])
            at = dice.randrange(len(deeds)) if deeds else 0
            if kind == "leave" and deeds:
                del deeds[at]
            elif kind == "exchange" and deeds:
                other = dice.randrange(len(deeds))
                deeds[at], deeds[other] = deeds[other], deeds[at]
            elif kind == "double" and deeds:
                deeds.insert(dice.randint(0, len(deeds)), deeds[at])
            elif kind == "change" and deeds and deeds[at][0] == "turn" and deeds[at][1] != -1:
                deeds[at] = deeds[at][:3] + (self.target(dice, packages, old),)
            else:
                joint = dice.choice(sorted(old.tables()) + [max(old.tables()) + 1])
                deeds.insert(dice.randint(0, len(deeds)), dice.choice([
                    ("turn", joint, dice.choice("abc"), self.target(dice, packages, old)), ("turn", -1, "", joint),
                    ("drop", (joint,)), ("make", ((99, (("a", 99),)),))]))
        return deeds

    def target(self, dice, packages, old):
        if dice.random() < 0.15:
            return dice.choice([None, ("p", "z"), ("z", "a"), ("p", "d")])
        return random_target(dice, sorted(old.tables()), targets_of(packages))

    def test_bent_plans(self):
        dice = random.Random(86)
        kinds = {}
        for packages, old, new in changes() * 2:
            for _ in range(4):
                deeds = self.bent(dice, packages, old, new, plan(packages, old, new))
                expected = plain_fault(packages, old, new, deeds)
                self.assertEqual(fault(packages, old, new, deeds), expected, (old.tables(), new.tables(), deeds))
                self.assertIs(is_straight(deeds), plain_straight(deeds))
                kind = None if expected is None else (expected[0] == len(deeds), expected[1] is None)
                kinds[kind] = kinds.get(kind, 0) + 1
        self.assertEqual(len(kinds), 5)

    def test_by_hand(self):
        packages = FILES
        old = Layout({0: {"a": ("p", "d"), "b": ("p", "d")}})
        new = Layout({0: {"a": ("p", "f"), "b": 1}, 1: {"c": ("p", "g")}})
        make = ("make", ((1, (("c", ("p", "g")),)),))
        good = [make, ("turn", 0, "a", ("p", "f")), ("turn", 0, "b", 1)]
        self.assertIsNone(fault(packages, old, new, good))
        self.assertEqual(fault(packages, old, new, good[1:]), (1, None))
        self.assertEqual(fault(packages, old, new, good[:2]), (2, "b"))
        self.assertEqual(fault(packages, old, new, good[:1]), (1, "a"))
        self.assertEqual(fault(packages, old, new, []), (0, "a"))
        self.assertEqual(fault(packages, old, new, [make, make]), (1, None))
        self.assertEqual(fault(packages, old, new, good + [("drop", (1,))]), (3, None))
        self.assertEqual(fault(packages, old, new, [("turn", 0, "a", ("p", "g"))]), (0, "a"))
        self.assertEqual(fault(packages, old, new, [("turn", 0, "a", None)]), (0, "a"))
        self.assertEqual(fault(packages, old, new, [("turn", 0, "c", 0)]), (0, "c"))
        self.assertEqual(fault(packages, old, new, [("turn", 0, "a", ("p", "z"))]), (0, None))
        self.assertEqual(fault(packages, old, new, [("turn", 0, "a", ("p", "g/h/i"))]), (0, None))
        self.assertEqual(fault(packages, old, new, [("make", ((1, (("c", ("q", "g")),)),))]), (0, None))
        self.assertEqual(fault(packages, old, new, good + [("make", ((2, ()),))]), (4, None))
        self.assertIsNone(fault(packages, old, new, good + [("make", ((2, ()),)), ("drop", (2,))]))
        self.assertEqual(fault(packages, old, old, [("make", ((2, ()),))]), (1, None))
        self.assertIsNone(fault(packages, old, old, []))
        # Folders through which one may go: what is below b shows neither the old nor the new.
        self.assertEqual(fault(packages, old, new, [("make", ((1, (("c", ("p", "d")),)),)), ("turn", 0, "b", 1)]),
                         (1, "b/c"))
        self.assertEqual(fault(packages=packages, old=old, new=new, deeds=good[:2]), (2, "b"))

    def test_any_value(self):
        packages, old, new = exchange()
        for thing in other_values() + wrong_paths() + [(), (("turn", 0, "a", 2),), None, {0: ("drop", (1,))}, old]:
            if not isinstance(thing, list):
                self.assertEqual(fault(packages, old, new, thing), (-1, None))
                self.assertIs(is_straight(thing), False)
        good = plan(packages, old, new, keep=())
        for thing in other_values() + wrong_paths() + [["drop", (0,)], ("turn", 0, "a", True), ("turn", True, "y", 0),
                                                       ("make", ((6, []),)), [good], old, None]:
            for at in range(len(good) + 1):
                self.assertEqual(fault(packages, old, new, good[:at] + [thing] + good[at:]), (at, None))
                self.assertIs(is_straight(good[:at] + [thing] + good[at:]), False)

    def test_no_target(self):
        bad = Layout({0: {"a": ("p", "z")}, 5: {"b": ("z", "z")}})
        worse = Layout({0: {"b": ("p", "")}})
        good = Layout({0: {}})
        for one, two, expected in [(bad, worse, (0, "a")), (worse, bad, (0, "b")), (good, bad, (0, "a"))]:
            for deeds in [None, [], [None]]:
                with self.assertRaises(NoTarget) as caught:
                    fault(FILES, one, two, deeds)
                self.assertEqual((caught.exception.joint, caught.exception.name), expected)

    def test_there_and_back(self):
        for packages, old, new in farm_changes(30, 87, packages=4, many=6) + near_changes(40, 88):
            now = old
            for to in [new, old, new]:
                deeds = plan(packages, now, to)
                self.assertIsNone(fault(packages, now, to, deeds))
                now = list(stops(now, deeds))[-1]
                self.assertEqual(renumbered(now), renumbered(to))

    def test_arguments_stay(self):
        packages, old, new = exchange()
        deeds = plan(packages, old, new, keep=())
        before = list(deeds)
        fault(packages, old, new, deeds)
        is_straight(deeds)
        self.assertEqual(deeds, before)
        self.assertEqual((old, new), exchange()[1:])


class Straight(unittest.TestCase):
    def test_by_hand(self):
        make, drop = ("make", ((3, (("x", 9),)),)), ("drop", (1, 2))
        turn, other, top = ("turn", 0, "a", 7), ("turn", 0, "b", None), ("turn", -1, "", 8)
        for deeds in [[], [make], [drop], [turn], [make, drop], [make, turn, other, top, drop], [top, turn],
                      [turn, ("turn", 1, "a", ("p", ""))]]:
            self.assertIs(is_straight(deeds), True, deeds)
        for deeds in [[drop, make], [turn, make], [make, make], [drop, drop], [drop, turn], [turn, turn], [top, top],
                      [turn, ("turn", 0, "a", 8)], [make, drop, turn], [turn, other, turn], tuple([make]), [[make]]]:
            self.assertIs(is_straight(deeds), False, deeds)
        self.assertIs(is_straight(deeds=[make]), True)

    def test_what_is_no_deed(self):
        for deed in [("turn", -1, "", None), ("turn", -1, "", ("p", "a")), ("turn", -1, "a", 0), ("drop", ()),
                     ("make", ()), ("drop", (2, 1)), ("turn", 0, "a", -1), ("make", ((1, (("b", 0), ("a", 0))),))]:
            self.assertIs(is_straight([deed]), False)


class Exchange(unittest.TestCase):
    def test_two_folders(self):
        packages = {"p": Package({"u/x": 1, "v/y": 2}), "q": Package({"u/z": 3, "v/z": 4})}
        old = Layout({0: {"a": 1, "b": 2}, 1: {"x": ("p", "u/x")}, 2: {"y": ("p", "v/y")}})
        new = Layout({0: {"a": 2, "b": 1}, 1: {"x": ("p", "u/x")}, 2: {"y": ("p", "v/y")}})
        deeds = plan(packages, old, new)
        self.assertEqual([deed[0] for deed in deeds[:2]], ["turn", "turn"])
        self.assertIsNone(fault(packages, old, new, deeds))
        self.assertEqual(fault(packages, old, new, [("turn", 0, "a", 2)]), (1, "b/x"))
        self.assertIsNone(fault(packages, old, new, [("turn", 0, "a", 2), ("turn", 0, "b", 1)]))
        self.assertEqual(fault(packages, old, new, [("turn", 1, "y", ("p", "v/y"))]), (1, "a/x"))
        self.assertEqual(fault(packages, old, new, [("turn", 1, "x", ("q", "u/z"))]), (0, "a/x"))

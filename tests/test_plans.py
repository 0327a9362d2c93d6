"""Plans of orderly keeps, and layouts step by step [14]."""

import random
import types
import unittest

from linkfarms.errors import BadDeed, BadKeep, NotOrderly, TooMany
from linkfarms.keeps import fewest_makes, greatest_keep, ring, turns, waits
from linkfarms.layouts import Layout, renumbered
from linkfarms.plans import makes, plan, stops
import plain_layouts as plain
from samples import other_values, wrong_paths
from some_layouts import farm_changes, in_another_order, near_changes, random_changes
from test_keeps import FILES, exchange


def changes():
    return (random_changes(50, 71) + near_changes(70, 72) + farm_changes(50, 73, packages=4, many=6)
            + random_changes(30, 74, spread=4))


class Plans(unittest.TestCase):
    def test_by_hand(self):
        packages, old, new = exchange()
        self.assertEqual(plan(packages, old, new, keep=()), [
            ("make", ((3, (("a", 5), ("b", 4))), (4, (("x", ("p", "d")),)), (5, (("y", ("p", "f")),)))),
            ("turn", -1, "", 3),
            ("drop", (0, 1, 2))])
        self.assertEqual(plan(packages, old, old), [])
        self.assertEqual(sorted(plan(packages, old, new, keep=((0, 0), (1, 2), (2, 1)))), [
            ("turn", 1, "x", None), ("turn", 1, "y", ("p", "f")), ("turn", 2, "x", ("p", "d")),
            ("turn", 2, "y", None)])
        more = Layout({4: {}, 8: {"a": 8}, 9: {}}, top=4)
        self.assertEqual(plan(packages, more, Layout({0: {}})), [("drop", (8, 9))])
        self.assertEqual(plan(packages, Layout({0: {}}), more), [])

    def check(self, packages, old, new, keep, deeds):
        turning = [deed for deed in deeds if deed[0] == "turn"]
        served = plain.servers(old, new, keep)
        built = sorted(joint for joint in served.values() if joint not in old.tables())
        dropped = sorted(set(old.tables()) - {one for one, other in keep})
        kinds = ["make"] * bool(built) + ["turn"] * len(turning) + ["drop"] * bool(dropped)
        self.assertEqual([deed[0] for deed in deeds], kinds)
        if built:
            joint_of = {served[joint]: joint for joint in served}
            rows = tuple((number, tuple(sorted(
                (name, served[target] if isinstance(target, int) else target)
                for name, target in new.tables()[joint_of[number]].items()))) for number in built)
            self.assertEqual(deeds[0], ("make", rows))
        if dropped:
            self.assertEqual(deeds[-1], ("drop", tuple(dropped)))
        finals = plain.finals(old, new, keep)
        order = [deed[1:3] for deed in turning]
        self.assertEqual(sorted(order), turns(packages, old, new, keep))
        self.assertEqual([deed[3] for deed in turning], [finals[link] for link in order])
        for one, other in waits(packages, old, new, keep):
            self.assertLess(order.index(other), order.index(one))
        self.check_stops(packages, old, new, deeds)

    def check_stops(self, packages, old, new, deeds):
        before = old.tables()
        seen = list(stops(old, deeds))
        self.assertEqual(seen[0], old)
        self.assertEqual(len(seen), len(deeds) + 1)
        for layout in seen:
            self.assertIsNone(plain.shows_either(packages, old, new, layout))
        self.assertEqual(renumbered(seen[-1]), renumbered(new))
        self.assertEqual(plain.seen(seen[-1]), sorted(seen[-1].tables()))
        self.assertEqual(old.tables(), before)

    def test_all_orderly_keeps(self):
        for packages, old, new in changes():
            for keep in plain.keeps(packages, old, new):
                if ring(packages, old, new, keep) is None:
                    deeds = plan(packages, old, new, keep=keep)
                    self.check(packages, old, new, keep, deeds)
                    self.assertEqual(plan(packages, old, new, keep=keep), deeds)
                    self.assertEqual(makes(deeds), len(plain.seen(new)) - len(keep))

    def test_without_a_keep(self):
        for packages, old, new in changes():
            deeds = plan(packages, old, new)
            self.assertEqual(makes(deeds), fewest_makes(packages, old, new))
            self.check_stops(packages, old, new, deeds)
            self.assertEqual(plan(packages, old, new, keep=None), deeds)
            self.assertEqual(makes(deeds), makes(plan(packages, old, new, keep=greatest_keep(packages, old, new))))

    def test_any_order_that_waits_allows(self):
        dice = random.Random(75)
        for packages, old, new in near_changes(60, 76) + random_changes(60, 77):
            for keep in plain.keeps(packages, old, new):
                if len(keep) < 2 or ring(packages, old, new, keep) is not None:
                    continue
                deeds = plan(packages, old, new, keep=keep)
                done = in_another_order(dice, deeds, waits(packages, old, new, keep))
                self.check_stops(packages, old, new, done)

    def test_one_after_another_there_and_back(self):
        for packages, old, new in farm_changes(40, 78, packages=4, many=6):
            now = old
            for to in [new, old, new]:
                deeds = plan(packages, now, to)
                self.check_stops(packages, now, to, deeds)
                now = list(stops(now, deeds))[-1]
            self.assertEqual(renumbered(now), renumbered(new))

    def test_two_joints_that_stop_leading_to_one_another(self):
        old = Layout({0: {"a": 1, "b": 2}, 1: {"x": 2, "f": ("p", "d")}, 2: {"x": 1, "f": ("p", "f")}})
        new = Layout({0: {"a": 1, "b": 2}, 1: {"f": ("p", "d")}, 2: {"f": ("p", "f")}})
        # Each of the two links shows what the other joint shows, so each one waits for the other one.
        for one, other in [(old, new), (new, old)]:
            deeds = plan(FILES, one, other)
            self.check_stops(FILES, one, other, deeds)
            self.assertEqual(makes(deeds), 1)

    def test_a_joint_that_moves_below_another_one(self):
        old = Layout({0: {"a": 1, "b": 2}, 1: {"f": ("p", "d")}, 2: {"f": ("p", "f")}})
        new = Layout({0: {"b": 2}, 1: {"f": ("p", "d")}, 2: {"f": ("p", "f"), "a": 1}})
        for one, other in [(old, new), (new, old)]:
            self.check_stops(FILES, one, other, plan(FILES, one, other))

    def test_many_joints_with_a_keep(self):
        many = 40
        old = Layout({at: {"n": (at + 1) % many, "f": ("p", "d")} for at in range(many)})
        new = Layout({at: {"n": (at + 1) % many, "f": ("p", "f")} for at in range(many)})
        keep = tuple((at, at) for at in range(many))
        self.check(FILES, old, new, keep, plan(FILES, old, new, keep=keep))
        self.check(FILES, old, new, (), plan(FILES, old, new, keep=()))


class Errors(unittest.TestCase):
    def test_not_orderly(self):
        found = 0
        for packages, old, new in changes():
            for keep in plain.keeps(packages, old, new):
                expected = ring(packages, old, new, keep)
                if expected is not None:
                    found += 1
                    with self.assertRaises(NotOrderly) as caught:
                        plan(packages, old, new, keep=keep)
                    self.assertIsInstance(caught.exception, RuntimeError)
                    self.assertEqual(len(caught.exception.ring), len(expected))
                    waiting = waits(packages, old, new, keep)
                    told = caught.exception.ring
                    self.assertTrue(all((told[at], told[at - 1]) in waiting for at in range(len(told))))
        self.assertGreater(found, 30)

    def test_too_many_only_without_a_keep(self):
        six = Layout({at: {"a": (at + 1) % 6} for at in range(6)})
        with self.assertRaises(TooMany) as caught:
            plan(FILES, six, six)
        self.assertEqual(caught.exception.limit, 5)
        self.assertEqual(plan(FILES, six, six, keep=tuple((at, at) for at in range(6))), [])
        with self.assertRaises(BadKeep):
            plan(FILES, six, six, keep=((0, 0), (0, 1)))
        with self.assertRaises(TypeError):
            plan(FILES, six, six, ())


class Stops(unittest.TestCase):
    def setUp(self):
        self.old = Layout({0: {"a": 1, "b": ("p", "d")}, 1: {}, 7: {"z": 7}})

    def last(self, *deeds):
        return list(stops(self.old, list(deeds)))[-1]

    def test_what_deeds_do(self):
        self.assertIsInstance(stops(self.old, []), types.GeneratorType)
        self.assertEqual(list(stops(self.old, [])), [self.old])
        self.assertEqual(self.last(("make", ((3, (("x", 3), ("y", 0))), (5, ())))).tables(),
                         {**self.old.tables(), 3: {"x": 3, "y": 0}, 5: {}})
        self.assertEqual(self.last(("make", ((3, (("x", 5),)), (5, (("x", ("q", "")),))))).tables()[5], {"x": ("q", "")})
        self.assertEqual(self.last(("turn", 0, "a", 0)).tables()[0], {"a": 0, "b": ("p", "d")})
        self.assertEqual(self.last(("turn", 0, "a", 1)), self.old)
        self.assertEqual(self.last(("turn", 1, "new", ("q", "z"))).tables()[1], {"new": ("q", "z")})
        self.assertEqual(self.last(("turn", 0, "b", None)).tables()[0], {"a": 1})
        self.assertEqual(self.last(("turn", -1, "", 1)).top, 1)
        self.assertEqual(self.last(("turn", -1, "", 0)), self.old)
        self.assertEqual(self.last(("drop", (7,))).tables(), {0: {"a": 1, "b": ("p", "d")}, 1: {}})
        self.assertEqual(self.last(("turn", -1, "", 1), ("drop", (0, 7))), Layout({1: {}}, top=1))
        self.assertEqual(self.last(("drop", (7,)), ("make", ((7, ()),))).tables()[7], {})
        told = list(stops(old=self.old, deeds=[("turn", 1, "x", 0), ("turn", 1, "x", None)]))
        self.assertEqual([told[0], told[2]], [self.old, self.old])
        self.assertEqual(told[1].tables()[1], {"x": 0})

    def test_deeds_that_cannot_be_done(self):
        wrong = [
            ("make", ((1, ()),)), ("make", ((3, (("x", 4),)),)), ("make", ((3, ()), (7, ()))),
            ("turn", 3, "a", 0), ("turn", 0, "c", None), ("turn", 0, "a", 3), ("turn", -1, "", 3),
            ("drop", (3,)), ("drop", (0,)), ("drop", (1,)), ("drop", (1, 7)), ("drop", (7, 8)), ("drop", (0, 1, 7)),
        ]
        for deed in wrong:
            self.check_wrong(deed)

    def test_what_is_no_deed(self):
        wrong = [
            ("make",), ("make", ()), ("make", ((3, ()), (3, ()))), ("make", ((5, ()), (3, ()))), ("make", [(3, ())]),
            ("make", ((3, (("y", 0), ("x", 0))),)), ("make", ((3, (("x", 0), ("x", 0))),)), ("make", ((3, []),)),
            ("make", ((3, {}),)), ("make", ((-1, ()),)), ("make", ((True, ()),)), ("make", ((3, (("x", None),)),)),
            ("make", ((3, (("", 0),)),)), ("make", ((3, (("x", True),)),)), ("make", ((3, (("x", ("p", "a/")),)),)),
            ("make", ((3, (["x", 0],)),)), ("make", ([3, ()],)), ("make", ((3, (), ()),)), ("make", ((3, ()),), 0),
            ("make", ((3, (("x",),)),)), ("make", 3), ("make", (3,)), ("Make", ((3, ()),)), ("make", (("3", ()),)),
            ("turn", 0, "a"), ("turn", 0, "a", 0, 0), ("turn", 0, "", 0), ("turn", -1, "a", 0), ("turn", -1, "", None),
            ("turn", -1, "", ("p", "d")), ("turn", True, "a", 0), ("turn", False, "a", 1), ("turn", 0, "a", True),
            ("turn", 0, "A", 0), ("turn", 0, "a/b", 0), ("turn", 0, "a", ["p", "d"]), ("turn", 0, "a", ("p",)),
            ("turn", None, "", 0), ("turn", "0", "a", 0), ("turn", 0, None, 0), ("turn", 0, "a", "b"), ("turn", -2, "", 0),
            ("turn", 0, "a", {}), ("turn", 0, ["a"], 0), ("turn", [0], "a", 0), ["turn", 0, "a", 0], ("turn", -1, "", True),
            ("drop",), ("drop", ()), ("drop", [7]), ("drop", 7), ("drop", (7, 7)), ("drop", (7,), 0), ("drop", ("7",)),
            ("drop", (None,)), ("drop", ([7],)), ("drop", (True,)), ("dropp", (7,)), (), ("turn",), (0, 7), ([], 7),
            (None, None), (("drop",), (7,)),
        ]
        for deed in wrong + other_values() + wrong_paths() + [self.old, self.old.tables()]:
            self.check_wrong(deed)

    def check_wrong(self, deed):
        good = [("turn", 1, "q", 1), ("turn", 1, "q", None)]
        for ahead in range(3):
            steps = stops(self.old, good[:ahead] + [deed] + [None])
            for _ in range(ahead + 1):
                next(steps)
            with self.assertRaises(BadDeed) as caught:
                next(steps)
            self.assertIsInstance(caught.exception, ValueError)
            self.assertEqual(caught.exception.index, ahead, deed)

    def test_order_of_dropping(self):
        # A joint that is not seen leads to 1, and one that is to be dropped leads to it.
        old = Layout({0: {}, 1: {"a": 2}, 2: {"a": 1}, 3: {"a": 2}})
        for joints, good in [((1, 2, 3), True), ((3,), True), ((1, 2), False), ((1,), False), ((1, 3), False)]:
            if good:
                self.assertEqual(sorted(list(stops(old, [("drop", joints)]))[-1].tables()),
                                 [joint for joint in range(4) if joint not in joints])
            else:
                with self.assertRaises(BadDeed):
                    list(stops(old, [("drop", joints)]))

    def test_makes(self):
        self.assertEqual(makes([]), 0)
        self.assertEqual(makes(deeds=[("make", ((3, ()), (5, ()))), ("turn", 0, "a", 3), ("drop", (1,)),
                                      ("make", ((1, ()),))]), 3)

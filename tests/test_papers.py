"""Papers [17]."""

import random
import unittest

from linkfarms.errors import BadPath
from linkfarms.farms import shown
from linkfarms.packages import Package
from linkfarms.papers import holds, paper
from plain import Told, all_paths, entries_of, order, split
from samples import other_values, wrong_paths
from some_farms import dealt, full_farm, random_farms, ring, window


def joined(place, name):
    return place + "/" + name if place else name


def targets(farm):
    return {item for path, item in entries_of(farm) if isinstance(item, str)}


def is_paper_path(thing):
    if not isinstance(thing, str):
        return False
    return thing == "" or all(1 <= len(part) <= 8 and set(part) <= set("abcdefghijklmnopqrstuvwxyz")
                              for part in thing.split("/"))


def plain_trail(farm, facts, path, trail):
    """Whether a tuple is a trail of a path that uses these facts, by the words of the document."""
    names = split(path)
    if not isinstance(trail, tuple) or len(trail) != len(names) + 1 or not isinstance(trail[0], str) or trail[0] != "":
        return False
    entries = entries_of(farm)
    for at, name in enumerate(names):
        after = joined(trail[at], name)
        if not isinstance(trail[at + 1], str):
            return False
        steps = [after for place, item in entries if place == after]
        steps += [told[1][-1] for told in facts for place, item in entries if place == after and item == told[0]
                  and isinstance(item, str)]
        if trail[at + 1] not in steps:
            return False
    return True


def plain_holds(farm, thing):
    if not isinstance(thing, tuple) or not thing or not isinstance(thing[0], str):
        return False
    if thing[0] == "shown" and len(thing) == 5 and is_paper_path(thing[1]) and isinstance(thing[2], tuple):
        kind, path, facts, trail, name = thing
        for at, fact in enumerate(facts):
            if not isinstance(fact, tuple) or len(fact) != 2 or not is_paper_path(fact[0]):
                return False
            if not plain_trail(farm, facts[:at], *fact):
                return False
        if not plain_trail(farm, facts, path, trail):
            return False
        if name is None:
            return trail[-1] == ""
        return isinstance(name, str) and name in farm and any(
            place == trail[-1] and not isinstance(item, str) for place, item in farm[name].items())
    if thing[0] == "absent" and len(thing) == 3 and is_paper_path(thing[1]) and isinstance(thing[2], dict):
        kind, path, table = thing
        if set(table) != targets(farm) or any(not isinstance(key, str) for key in table):
            return False
        for places in table.values():
            if not isinstance(places, tuple) or not all(is_paper_path(place) for place in places):
                return False
            if sorted(set(places), key=order) != list(places):
                return False
        if any(not set(plain_read(farm, table, target)) <= set(table[target]) for target in table):
            return False
        read = plain_read(farm, table, path)
        return "" not in read and not any(place in read and not isinstance(item, str) for place, item in entries_of(farm))
    return False


def plain_read(farm, table, path):
    places = {""}
    for name in split(path):
        after = set()
        for place in places:
            for other, item in entries_of(farm):
                if other == joined(place, name):
                    after |= {other} | (set(table[item]) if isinstance(item, str) else set())
        places = after
    return places


FARM = {"p": Package({"a": "b", "b/x": 1, "c/d": "a", "e": "", "f": "f"}), "q": Package({"b/y": "c", "c/k": None})}


class Papers(unittest.TestCase):
    def test_by_hand(self):
        self.assertEqual(paper(FARM, ""), ("shown", "", (), ("",), None))
        self.assertEqual(paper(FARM, "b/x"), ("shown", "b/x", (), ("", "b", "b/x"), "p"))
        self.assertEqual(paper(FARM, "a/x"), ("shown", "a/x", (("b", ("", "b")),), ("", "b", "b/x"), "p"))
        self.assertEqual(paper(FARM, "e"), ("shown", "e", (("", ("",)),), ("", ""), None))
        self.assertEqual(paper(FARM, "f"), ("absent", "f", {
            "": ("",), "a": ("a", "b"), "b": ("b",), "c": ("c",), "f": ("f",)}))
        self.assertEqual(paper({}, "a"), ("absent", "a", {}))
        self.assertEqual(paper({}, ""), ("shown", "", (), ("",), None))
        self.assertEqual(paper(packages=FARM, path="z")[:2], ("absent", "z"))
        # q shows a clash at b: a clash is something, too.
        clash = {"p": Package({"a": 1}), "q": Package({"a": 2})}
        self.assertEqual(paper(clash, "a")[0], "shown")
        self.assertIs(holds(clash, paper(clash, "a")), True)

    def test_each_path_of_small_farms(self):
        for seed, told in [(91, dict()), (92, dict(letters=["a", "b"], many=7, depth=4)), (93, dict(packages=6))]:
            for farm in random_farms(60, seed, **told):
                plain = Told(farm)
                for path in all_paths(["a", "b", "c"], 3)[::2]:
                    found = paper(farm, path)
                    self.assertEqual(found[0], "absent" if plain.shown(path) == "nothing" else "shown")
                    self.assertEqual(found[1], path)
                    self.assertIs(plain_holds(farm, found), True, (farm, found))
                    self.assertIs(holds(farm, found), True)
                    self.assertEqual(paper({name: farm[name] for name in reversed(list(farm))}, path), found)

    def test_rings_and_long_paths(self):
        for farm, paths in [
                (dealt(ring(30)), ["ra", "rb/x", "r"]),
                (dealt(ring(30) + [("ra", None)]), ["rc", "rd/x"]),
                ({"p": Package({"a": "", "b/a": "b", "c": 1})}, ["a/" * 150 + "c", "b" + "/a" * 150, "a/" * 99 + "z"]),
                (window(12), ["a/" * 40 + "a", "a/b" * 30, "b/" * 20 + "c"])]:
            for path in paths:
                found = paper(farm, path)
                self.assertIs(plain_holds(farm, found), True)
                self.assertIs(holds(farm, found), True)
                self.assertEqual(found[0] == "absent", shown(farm, path) == "nothing")

    def test_full_farms(self):
        dice = random.Random(94)
        farm = full_farm()
        for _ in range(60):
            path = "/".join(dice.choice("abcdefgh") for _ in range(dice.randint(1, 8)))
            found = paper(farm, path)
            self.assertIs(holds(farm, found), True)
            self.assertEqual(found[0] == "absent", shown(farm, path) == "nothing")

    def test_wrong_paths(self):
        for value in other_values() + wrong_paths():
            with self.assertRaises(BadPath) as caught:
                paper(FARM, value)
            self.assertIs(caught.exception.path, value)

    def test_returned_tables_are_new(self):
        found = paper(FARM, "z")
        found[2].clear()
        self.assertEqual(len(paper(FARM, "z")[2]), 5)


class Holds(unittest.TestCase):
    def test_papers_written_otherwise(self):
        good = [
            ("shown", "a/x", (("b/x", ("", "b", "b/x")), ("b", ("", "b")), ("b", ("", "b"))), ("", "b", "b/x"), "p"),
            ("shown", "a", (("b", ("", "b")),), ("", "b"), "q"),
            ("shown", "e/e/a/x", (("", ("",)), ("b", ("", "b"))), ("", "", "", "b", "b/x"), "p"),
            ("shown", "e/b/x", (("", ("",)), ("e/e", ("", "", ""))), ("", "", "b", "b/x"), "p"),
            ("shown", "c/d/x", (("b", ("", "b")), ("a", ("", "b"))), ("", "c", "b", "b/x"), "p"),
            ("shown", "e", (("", ("",)),), ("", ""), None),
            ("absent", "f/x", {"": ("",), "a": ("a", "b", "c"), "b": ("b",), "c": ("c",), "f": ("f",)}),
            ("absent", "z", {"": ("", "a", "z/z"), "a": ("a", "b", "f", "c/d"), "b": ("b", "f"), "c": ("c", "z/a"),
                             "f": ("f", "g/h/i")}),
        ]
        for thing in good:
            self.assertIs(plain_holds(FARM, thing), True, thing)
            self.assertIs(holds(FARM, thing), True, thing)
            self.assertIs(holds(packages=FARM, thing=thing), True)

    def test_wrong_ones(self):
        table = {"": ("",), "a": ("a", "b"), "b": ("b",), "c": ("c",), "f": ("f",)}
        wrong = [
            ("shown", "a/x", (("b", ("", "b")),), ("", "b", "b/x"), "q"),
            ("shown", "a/x", (("b", ("", "b")),), ("", "b", "b/x"), None),
            ("shown", "a/x", (), ("", "b", "b/x"), "p"),
            ("shown", "a/x", (("b", ("", "b")),), ("", "a", "b/x"), "p"),
            ("shown", "a", (), ("", "a"), "p"),
            ("shown", "c/d/x", (("a", ("", "b")), ("b", ("", "b"))), ("", "c", "b", "b/x"), "p"),
            ("shown", "c/d/x", (("b", ("", "b")),), ("", "c", "b", "b/x"), "p"),
            ("shown", "e", (("", ("",)),), ("", ""), "p"),
            ("shown", "e", (), ("", "e"), None),
            ("shown", "f", (("f", ("", "f")),), ("", "f"), "p"),
            ("shown", "", (), ("",), "p"), ("shown", "", (), [""], None), ("shown", "", [], ("",), None),
            ("shown", "", (), ("",)), ("shown", "", (), ("",), None, None), ("absent", "", (), ("",), None),
            ("shown", "b/x", (), ("", "b", "b/x"), ["p"]), ("shown", "b/x", (), ("", "b", "b/x"), "z"),
            ("shown", "b/x", (("b",),), ("", "b", "b/x"), "p"), ("shown", "b/x", (["b", ("", "b")],), ("", "b", "b/x"), "p"),
            ("shown", "b/x", (("b", ["", "b"]),), ("", "b", "b/x"), "p"), ("shown", "b/x", (None,), ("", "b", "b/x"), "p"),
            ("shown", "b/x", (("B", ("", "b")),), ("", "b", "b/x"), "p"), ("shown", "b/x", (), ("", "b"), "p"),
            ("shown", "b/x", (), ("", "b", "b/x", "b/x"), "p"), ("shown", "b/x", (), ("", "b", None), "p"),
            ("shown", "b/x", (), ("", None, "b/x"), "p"), ("shown", "b/x", (), (None, "b", "b/x"), "p"),
            ("shown", "b/x", (), ("b", "b/x"), "p"), ("shown", "x", (), ("b", "b/x"), "p"),
            ("shown", "a/x", (("b", ("b",)),), ("", "b", "b/x"), "p"), ("shown", "a/x", (("", ("b",)),), ("", "b", "b/x"), "p"),
            ("shown", "e/x", (("", ("b",)),), ("", "b", "b/x"), "p"), ("shown", "", (), ("b",), "p"), ["shown", "b/x", (), ("", "b", "b/x"), "p"],
            (b"shown".decode() + "s", "b/x", (), ("", "b", "b/x"), "p"),
            ("absent", "z", {**table, "z": ()}), ("absent", "z", {"a": ("a", "b")}), ("absent", "z", {**table, 1: ()}),
            ("absent", "z", {**table, "a": ("a",)}), ("absent", "z", {**table, "a": ["a", "b"]}),
            ("absent", "z", {**table, "a": ("b", "a")}), ("absent", "z", {**table, "a": ("a", "a", "b")}),
            ("absent", "z", {**table, "a": ("a", "b", "b/")}), ("absent", "z", {**table, "a": ("a", "b", None)}),
            ("absent", "z", {**table, "a": None}), ("absent", "z", {**table, "": ()}), ("absent", "", table),
            ("absent", "a", table), ("absent", "b/x", table), ("absent", "e", table), ("absent", "e/b", table),
            ("absent", "f/b/x", {**table, "f": ("", "f")}), ("absent", "f", {**table, "f": ("b", "f")}),
            ("absent", "z", table, None), ("absent", "z"), ("absent", "Z", table), ("absent", None, table),
            ("absent", "z", tuple(table)), ("absents", "z", table), (None, "z", table), (0, "z", table),
        ]
        for thing in wrong + other_values() + wrong_paths() + [FARM, (), ("shown",), ("absent",), ("shown", [], [], [], [])]:
            self.assertIs(plain_holds(FARM, thing), False, thing)
            self.assertIs(holds(FARM, thing), False, thing)

    def test_about_another_farm_or_path(self):
        farms = random_farms(60, 95)
        agree = 0
        for one, other in zip(farms, farms[1:]):
            for path in all_paths(["a", "b", "c"], 2)[::2]:
                found = paper(one, path)
                expected = plain_holds(other, found)
                agree += expected
                self.assertIs(holds(other, found), expected)
                if expected:
                    self.assertEqual(found[0] == "absent", shown(other, path) == "nothing")
                for more in ["a", "b/c"]:
                    moved = (found[0], more) + found[2:]
                    self.assertIs(holds(one, moved), plain_holds(one, moved))
        self.assertGreater(agree, 20)

    def bent(self, dice, thing, pool):
        """A value that is changed somewhere inside."""
        if isinstance(thing, (tuple, list)) and thing and dice.random() < 0.85:
            parts = list(thing)
            at = dice.randrange(len(parts))
            kind = dice.choice(["inside"] * 4 + ["leave", "double", "exchange"])
            if kind == "inside":
                parts[at] = self.bent(dice, parts[at], pool)
            elif kind == "leave":
                del parts[at]
            elif kind == "double":
                parts.insert(at, parts[at])
            else:
                other = dice.randrange(len(parts))
                parts[at], parts[other] = parts[other], parts[at]
            return parts if isinstance(thing, list) or dice.random() < 0.03 else tuple(parts)
        if isinstance(thing, dict) and thing and dice.random() < 0.85:
            table = dict(thing)
            key = dice.choice(sorted(table))
            if dice.random() < 0.3:
                table[dice.choice(pool)] = table.pop(key)
            else:
                table[key] = self.bent(dice, table[key], pool)
            return table
        return dice.choice(pool + [None, 0, True, (), thing])

    def test_bent_papers(self):
        dice = random.Random(96)
        told = {True: 0, False: 0}
        for farm in random_farms(80, 97, many=6):
            pool = sorted({path for path, item in entries_of(farm)} | targets(farm) | set(farm) | {"", "a/b"})
            for path in dice.sample(all_paths(["a", "b", "c"], 3), 6):
                found = paper(farm, path)
                for _ in range(8):
                    bent = self.bent(dice, found, pool)
                    if dice.random() < 0.3:
                        bent = self.bent(dice, bent, pool)
                    expected = plain_holds(farm, bent)
                    told[expected] += 1
                    self.assertIs(holds(farm, bent), expected, (farm, bent))
                    if expected:
                        self.assertEqual(bent[0] == "absent", shown(farm, bent[1]) == "nothing")
        self.assertGreater(min(told.values()), 100)

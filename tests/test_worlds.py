"""Worlds [15] and their trials [16]."""

import random
import unittest

from linkfarms import errors
from linkfarms.errors import (BadContent, BadEntry, BadName, BadPackage, BadPath, Clash, NoFarm, NoFile, NoFolder,
                              NoPackage, NothingToUndo, Shared, Taken, TooMany)
from linkfarms.farms import shown
from linkfarms.packages import Package
from linkfarms.worlds import World
from plain import all_paths
from plain_world import PlainWorld, Refused
from samples import deep, flat, other_values, wrong_paths
from some_farms import dealt, random_package, random_path, rings_from_one_path, window

LETTERS = ["a", "b", "c"]


def raised(call):
    """The name of the error that a call raises, with its fields."""
    try:
        call()
    except Exception as error:
        if type(error).__module__ != "linkfarms.errors":
            raise
        return (type(error).__name__, *vars(error).values())
    return None


def state(world):
    return ([(name, str(world.package(name))) for name in world.packages],
            [(farm, world.installed(farm), str(world.own(farm))) for farm in world.farms], world.deeds)


def small_world():
    """Three packages and two farms; f has a folder that p alone owns, and one that p and q own."""
    world = World()
    world.define("p", Package({"bin/run": 1, "lib/core": 2, "lib/deep": None, "share": "lib", "same": 5}))
    world.define("q", Package({"bin/more": 3, "doc": None, "same": 5}))
    world.define("r", Package({"lib": None, "x": "bin"}))
    world.open_farm("f", "p", "q")
    world.open_farm("g", "p")
    return world


class Checks(unittest.TestCase):
    def check(self, expected, call, *worlds):
        before = [state(world) for world in worlds]
        self.assertEqual(raised(call), expected)
        self.assertEqual([state(world) for world in worlds], before)


class Packages(Checks):
    def test_define_and_tell(self):
        world = World()
        self.assertEqual((world.packages, world.farms, world.deeds, len(world)), ([], [], 0, 0))
        given = Package({"a": 1})
        self.assertIsNone(world.define("q", given))
        self.assertIsNone(world.define(name="p", package=Package()))
        self.assertEqual(world.packages, ["p", "q"])
        self.assertEqual(world.package("q"), given)
        self.assertEqual(world.package(name="p"), Package())
        world.define("q", Package({"b": 2}))
        self.assertEqual(world.package("q"), Package({"b": 2}))
        self.assertEqual(given, Package({"a": 1}))
        self.assertEqual(world.deeds, 3)

    def test_wrong_names_and_packages(self):
        world = small_world()
        for thing in other_values() + wrong_paths() + ["own", "", "a/b"]:
            self.check(("BadName", thing), lambda: world.define(thing, None), world)
            self.check(("BadName", thing), lambda: world.define(thing, Package({"a": 1})), world)
        for thing in other_values() + wrong_paths() + ["a", world, {"a": Package()}]:
            if not isinstance(thing, Package):
                self.check(("BadPackage", thing), lambda: world.define("z", thing), world)
        self.assertIsInstance(errors.BadPackage(1), TypeError)

    def test_at_most_six(self):
        world = World()
        for name in "abcdef":
            world.define(name, Package())
        self.check(("TooMany", 6), lambda: world.define("g", Package()), world)
        self.check(("BadPackage", None), lambda: world.define("g", None), world)
        world.define("f", Package({"a": 1}))
        self.assertEqual(world.packages, list("abcdef"))

    def test_no_package(self):
        world = small_world()
        for thing in other_values() + wrong_paths() + ["z", "f", "own"]:
            self.check(("NoPackage", thing), lambda: world.package(thing), world)

    def test_replaced_in_all_farms(self):
        world = small_world()
        world.define("p", Package({"new": 1}))
        for farm in ["f", "g"]:
            self.assertEqual(world.shown(farm, "new"), "file")
            self.assertEqual(world.shown(farm, "lib"), "nothing")


class Farms(Checks):
    def test_open_and_tell(self):
        world = small_world()
        self.assertEqual(world.farms, ["f", "g"])
        self.assertIsNone(world.open_farm("a", "q", "p"))
        self.assertIsNone(world.open_farm("p"))
        self.assertEqual(world.farms, ["a", "f", "g", "p"])
        self.assertEqual(world.installed("a"), ["p", "q"])
        self.assertEqual(world.installed("p"), [])
        self.assertEqual(world.own("a"), Package())
        self.assertEqual(world.dict_of("p"), {})
        self.assertEqual(world.dict_of("f"), {"p": world.package("p"), "q": world.package("q")})
        self.assertEqual(len(world), 4)
        for name in ["a", "f", "p", "q", "r"]:
            self.assertIn(name, world)
        for thing in other_values() + wrong_paths() + ["z", "own", "ff"]:
            self.assertFalse(thing in world)

    def test_open_errors_in_order(self):
        world = small_world()
        for thing in other_values() + wrong_paths() + ["", "a/b"]:
            self.check(("BadName", thing), lambda: world.open_farm(thing, "z"), world)
        self.check(("Taken", "f"), lambda: world.open_farm("f", "z"), world)
        for thing in other_values() + wrong_paths() + ["z", "f"]:
            self.check(("NoPackage", thing), lambda: world.open_farm("h", "p", "p", thing, "y"), world)
        self.check(("Taken", "q"), lambda: world.open_farm("h", "p", "q", "q", "p"), world)
        self.check(("Taken", "p"), lambda: world.open_farm("h", "p", "p"), world)
        world.define("s", Package({"bin/run": 7}))
        self.check(("Clash", "h", "bin/run"), lambda: world.open_farm("h", "p", "s"), world)
        world.open_farm("h")
        world.open_farm("i")
        self.check(("TooMany", 4), lambda: world.open_farm("j", "p", "s"), world)
        self.check(("Taken", "p"), lambda: world.open_farm("j", "p", "p"), world)
        self.check(("NoPackage", "z"), lambda: world.open_farm("j", "z"), world)
        self.check(("Taken", "i"), lambda: world.open_farm("i"), world)
        world.undo()
        # A farm may be called own; no package may.
        self.assertIsNone(world.open_farm("own", "p"))

    def test_install_and_uninstall(self):
        world = small_world()
        self.assertIsNone(world.install("g", "r", "q"))
        self.assertEqual(world.installed("g"), ["p", "q", "r"])
        self.assertIsNone(world.uninstall("g", "p", "q"))
        self.assertEqual(world.installed("g"), ["r"])
        deeds = world.deeds
        world.install("g")
        world.uninstall("g")
        self.assertEqual(world.deeds, deeds + 2)
        self.assertEqual(world.installed("g"), ["r"])

    def test_install_errors_in_order(self):
        world = small_world()
        for thing in other_values() + wrong_paths() + ["z", "p"]:
            for call in [world.install, world.uninstall]:
                self.check(("NoFarm", thing), lambda: call(thing, "y"), world)
        for thing in other_values() + wrong_paths() + ["z", "f", "own"]:
            self.check(("NoPackage", thing), lambda: world.install("f", "p", "r", "r", thing, "y"), world)
            self.check(("NoPackage", thing), lambda: world.uninstall("f", "p", "p", thing, "y"), world)
        self.check(("NoPackage", "r"), lambda: world.uninstall("f", "p", "r"), world)
        self.check(("Taken", "p"), lambda: world.install("f", "r", "p", "r"), world)
        self.check(("Taken", "r"), lambda: world.install("f", "r", "r", "p"), world)
        self.check(("Taken", "q"), lambda: world.uninstall("f", "p", "q", "q", "p"), world)
        world.define("s", Package({"bin": 1}))
        self.check(("Clash", "f", "bin"), lambda: world.install("f", "r", "s"), world)
        self.check(("Clash", "g", "bin"), lambda: world.install("g", "s"), world)

    def test_no_farm_anywhere(self):
        world = small_world()
        for thing in other_values() + wrong_paths() + ["z", "p", "own"]:
            calls = [
                lambda: world.write(thing, "", None), lambda: world.make_folder(thing, ""),
                lambda: world.replace(thing, "", None), lambda: world.erase(thing, ""),
                lambda: world.shown(thing, ""), lambda: world.owners(thing, ""), lambda: world.holders(thing, ""),
                lambda: world.landing(thing, ""), lambda: world.ahead(thing, "", None),
                lambda: world.count_ahead(thing, "", None, 1), lambda: world.ahead("f", "", thing),
                lambda: world.count_ahead("f", "", thing, 1), lambda: world.own(thing),
                lambda: world.installed(thing), lambda: world.dict_of(thing),
            ]
            for call in calls:
                self.check(("NoFarm", thing), call, world)

    def test_wrong_paths_ahead_of_all(self):
        world = small_world()
        for value in other_values() + wrong_paths():
            calls = [
                lambda: world.write(None, value, None), lambda: world.make_folder(None, value),
                lambda: world.replace(farm="z", path=value, content=None), lambda: world.erase([], value),
                lambda: world.shown(None, value), lambda: world.owners({}, value), lambda: world.holders(1, value),
                lambda: world.landing(None, value), lambda: world.ahead(None, value, None),
                lambda: world.count_ahead(None, value, None, 1),
            ]
            for call in calls:
                self.check(("BadPath", value), call, world)

    def test_returned_lists_are_new(self):
        world = small_world()
        before = state(world)
        world.packages.clear()
        world.farms.clear()
        world.installed("f").clear()
        world.dict_of("f").clear()
        world.owners("f", "").clear()
        world.holders("f", "same").clear()
        self.assertEqual(state(world), before)
        self.assertEqual(len(world.owners("f", "")), 3)


class Entries(Checks):
    def test_landings(self):
        world = small_world()
        for farm, path, expected in [
                ("f", "lib/x", ("p", "lib/x")), ("f", "share/x", ("p", "lib/x")), ("f", "lib/deep/x", ("p", "lib/deep/x")),
                ("f", "bin/x", (None, "bin/x")), ("g", "bin/x", ("p", "bin/x")), ("f", "doc/x", ("q", "doc/x")),
                ("f", "x", (None, "x")), ("g", "x", (None, "x")), ("f", "no/where/x", (None, "no/where/x")),
                ("f", "share/deep/x", ("p", "lib/deep/x")), ("f", "lib/core", ("p", "lib/core"))]:
            self.assertEqual(world.landing(farm, path), expected, (farm, path))
        self.check(("NoFolder", ""), lambda: world.landing("f", ""), world)
        world.open_farm("h")
        self.assertEqual(world.landing("h", "x"), (None, "x"))
        world.define("t", Package({"up": "", "a/b": "z", "down": "mine"}))
        world.open_farm("i", "t")
        self.assertEqual(world.landing("i", "up/x"), (None, "up/x"))
        self.assertEqual(world.landing("i", "a/x"), (None, "a/x"))
        self.assertEqual(world.make_folder("i", "mine"), (None, "mine"))
        # The own entries alone have a folder at down, by a reference of the package.
        self.assertEqual(world.owners("i", "down"), [(None, "mine")])
        self.assertEqual(world.write("i", "down/x", 1), (None, "mine/x"))
        self.assertEqual(world.own("i"), Package({"mine/x": 1}))

    def test_owners_and_holders(self):
        world = small_world()
        self.assertEqual(world.owners("f", ""), [(None, ""), ("p", ""), ("q", "")])
        self.assertEqual(world.owners("f", "bin"), [("p", "bin"), ("q", "bin")])
        self.assertEqual(world.owners("f", "share"), [("p", "lib")])
        self.assertEqual(world.owners("f", "bin/run"), [])
        self.assertEqual(world.holders("f", "share/core"), [("p", "lib/core")])
        self.assertEqual(world.holders("f", "same"), [("p", "same"), ("q", "same")])
        self.assertEqual(world.holders("f", "bin"), [])
        self.assertEqual(world.holders(farm="f", path="no"), [])
        world.make_folder("f", "bin/own")
        self.assertEqual(world.owners(farm="f", path="bin"), [(None, "bin"), ("p", "bin"), ("q", "bin")])
        world.define("p", Package({"b": "a", "a/x": 1, "c": "b"}))
        self.assertEqual(world.owners("g", "c"), [("p", "a")])

    def test_several_places_of_one_package(self):
        world = World()
        world.define("p", Package({"a/x": 1, "b/x": 1, "bb/x": 1, "c": "a"}))
        world.define("q", Package({"c": "b", "bb": None}))
        world.define("r", Package({"c": "bb"}))
        world.open_farm("f", "p", "q", "r")
        self.assertEqual(world.holders("f", "c/x"), [("p", "a/x"), ("p", "b/x"), ("p", "bb/x")])
        self.assertEqual(world.owners("f", "c"), [("p", "a"), ("p", "b"), ("p", "bb"), ("q", "bb")])
        self.check(("Shared", [("p", "a/x"), ("p", "b/x"), ("p", "bb/x")]), lambda: world.erase("f", "c/x"), world)

    def test_write_in_all_farms_or_in_one(self):
        world = small_world()
        self.assertEqual(world.write("g", "share/new", 9), ("p", "lib/new"))
        for farm, path in [("f", "lib/new"), ("f", "share/new"), ("g", "lib/new")]:
            self.assertEqual(world.shown(farm, path), "file")
        self.assertEqual(world.write("f", "bin/new", 9), (None, "bin/new"))
        self.assertEqual(world.own("f"), Package({"bin/new": 9}))
        self.assertEqual(world.dict_of("f")["own"], Package({"bin/new": 9}))
        self.assertEqual(world.shown("g", "bin/new"), "nothing")
        self.assertEqual(world.make_folder("f", "doc/sub"), ("q", "doc/sub"))
        self.assertEqual(world.write("f", "doc/sub/x", -3), ("q", "doc/sub/x"))
        self.assertEqual(world.package("q").content("doc/sub/x"), -3)
        # Own entries stay when packages go.
        world.uninstall("f", "p", "q")
        self.assertEqual(world.shown("f", "bin/new"), "file")
        self.assertEqual(world.dict_of("f"), {"own": Package({"bin/new": 9})})

    def test_write_errors_in_order(self):
        world = small_world()
        for thing in other_values() + wrong_paths() + [10 ** 12, -10 ** 12, "1"]:
            if not isinstance(thing, int) or isinstance(thing, bool) or abs(thing) >= 10 ** 12:
                self.check(("BadContent", thing), lambda: world.write("f", "", thing), world)
                self.check(("BadContent", thing), lambda: world.replace("f", "no", thing), world)
        for call in [lambda path: world.write("f", path, 1), lambda path: world.make_folder("f", path)]:
            for path in ["", "bin", "bin/run", "share/core", "same"]:
                self.check(("Taken", path), lambda: call(path), world)
            for path, parent in [("no/x", "no"), ("bin/run/x", "bin/run"), ("a/b/c", "a/b"), ("same/x/y", "same/x")]:
                self.check(("NoFolder", parent), lambda: call(path), world)

    def test_places_of_more_than_ten_names(self):
        world = World()
        world.define("p", Package({deep(10): None, "b": "a/a", "c": deep(8)}))
        world.open_farm("f", "p")
        self.check(("BadEntry", deep(11)), lambda: world.write("f", deep(11), 1), world)
        # At c/a/a the package has its folder of ten names, so what is in it has a place of eleven.
        self.check(("BadEntry", deep(10) + "/x"), lambda: world.make_folder("f", "c/a/a/x"), world)
        self.assertEqual(world.landing("f", "c/a/a/x"), ("p", deep(10) + "/x"))
        # A path with many names may land at a place with few.
        world.define("q", Package({"r/r": "r"}))
        world.open_farm("g", "q")
        self.check(("BadEntry", "r/" * 12 + "x"), lambda: world.write("g", "r/" * 12 + "x", 1), world)
        world.define("q", Package({"r": None, "s": "r", "r/k": None, "t": "s"}))
        self.assertEqual(world.write("g", "t/k/x", 1), ("q", "r/k/x"))
        self.assertEqual(world.write("g", "r/k/y", 1), ("q", "r/k/y"))

    def test_the_forty_first_entry(self):
        world = World()
        world.define("p", Package({"a": None, **{"b" + name: 0 for name in flat(39)}}))
        world.open_farm("f", "p")
        self.check(("TooMany", 40), lambda: world.write("f", "a/x", 1), world)
        self.check(("TooMany", 40), lambda: world.make_folder("f", "a/x"), world)
        for name in flat(38):
            world.write("f", "c" + name, 1)
        self.assertEqual(len(world.own("f")), 38)
        world.make_folder("f", "d")
        world.make_folder("f", "e")
        self.check(("TooMany", 40), lambda: world.write("f", "g", 1), world)
        # A folder d in the own entries has the own entries as its only owner.
        self.check(("TooMany", 40), lambda: world.write("f", "d/x", 1), world)
        world.erase("f", "c" + list(flat(38))[0])
        self.assertEqual(world.write("f", "d/x", 1), (None, "d/x"))

    def test_replace_and_erase(self):
        world = small_world()
        self.assertEqual(world.replace("f", "share/core", 7), ("p", "lib/core"))
        self.assertEqual(world.package("p").content("lib/core"), 7)
        self.assertEqual(world.erase("g", "lib/core"), ("p", "lib/core"))
        self.assertEqual(world.shown("f", "lib/core"), "nothing")
        self.assertEqual(world.shown("f", "lib"), "folder")
        for call in [lambda path: world.replace("f", path, 1), lambda path: world.erase("f", path)]:
            for path in ["", "bin", "no", "lib/core", "bin/run/x"]:
                self.check(("NoFile", path), lambda: call(path), world)
            self.check(("Shared", [("p", "same"), ("q", "same")]), lambda: call("same"), world)
        self.assertEqual(world.erase(farm="g", path="same"), ("p", "same"))
        self.assertEqual(world.replace(farm="f", path="same", content=6), ("q", "same"))
        world.write("f", "mine", 1)
        deeds = world.deeds
        self.assertEqual(world.replace("f", "mine", 1), (None, "mine"))
        self.assertEqual(world.deeds, deeds + 1)
        self.assertEqual(world.erase("f", "mine"), (None, "mine"))
        self.assertEqual(world.own("f"), Package())
        self.assertNotIn("own", world.dict_of("f"))

    def test_equal_files_of_the_own_entries(self):
        world = World()
        world.define("p", Package({"a/x": 1, "b": "c"}))
        world.define("q", Package({"a": None}))
        world.open_farm("f", "p", "q")
        world.erase("f", "a/x")
        self.assertEqual(world.write("f", "a/x", 1), (None, "a/x"))
        world.define("p", Package({"a/x": 1}))
        self.assertEqual(world.holders("f", "a/x"), [(None, "a/x"), ("p", "a/x")])
        self.check(("Shared", [(None, "a/x"), ("p", "a/x")]), lambda: world.erase("f", "a/x"), world)


class Clashes(Checks):
    def test_each_deed_that_would_bring_one(self):
        world = World()
        world.define("p", Package({"a/x": 1, "z": 2}))
        world.define("q", Package({"b": "a"}))
        world.define("r", Package({"b/y": 5, "a/y": None}))
        world.open_farm("g", "p", "q")
        world.open_farm("h", "p")
        self.check(("Clash", "g", "b/y"), lambda: world.install("g", "r"), world)
        self.check(("Clash", "i", "b/y"), lambda: world.open_farm("i", "r", "q"), world)
        self.check(("Clash", "g", "b"), lambda: world.define("p", Package({"a/x": 1, "z": 2, "b": 3})), world)

    def test_the_least_farm_and_its_least_path(self):
        world = World()
        world.define("p", Package({"a": 1}))
        world.define("q", Package({"a": 1, "b": None}))
        world.define("r", Package({"b": None}))
        world.open_farm("h", "p", "q")
        world.open_farm("g", "q", "r")
        self.check(("Clash", "h", "a"), lambda: world.define("p", Package({"a": 2, "b": 4})), world)
        self.check(("Clash", "g", "b"), lambda: world.define("q", Package({"a": 2, "b": 4})), world)
        self.check(("Clash", "h", "a"), lambda: world.define("q", Package({"a": 2})), world)
        world.uninstall("g", "q")
        world.define("p", Package({"b": None}))
        self.assertEqual(world.shown("h", "a"), "file")

    def test_by_writing_and_replacing(self):
        world = World()
        world.define("p", Package({"a": None, "b": "a"}))
        world.define("q", Package({"b": None}))
        world.define("s", Package({"a/x/y": 1}))
        world.open_farm("f", "p")
        world.open_farm("e", "p", "q", "s")
        # In the farm f the folder a is that of p alone; in e there is a folder a/x already.
        self.check(("Clash", "e", "a/x"), lambda: world.write("f", "a/x", 1), world)
        self.assertEqual(world.make_folder("f", "a/x"), ("p", "a/x"))
        world.define("t", Package({"k": 1, "l": "m", "m": 1}))
        world.define("u", Package({"k": 1, "l": 1}))
        world.open_farm("g", "t", "u")
        world.open_farm("h", "t")
        self.check(("Clash", "g", "k"), lambda: world.replace("h", "k", 2), world)
        self.check(("Clash", "g", "l"), lambda: world.replace("h", "l", 2), world)
        self.assertEqual(world.replace("h", "l", 1), ("t", "m"))


class Undo(Checks):
    def test_back_to_the_beginning_and_on_again(self):
        world = small_world()
        found = [state(world)]
        for call in [lambda: world.write("f", "lib/new", 1), lambda: world.make_folder("f", "top"),
                     lambda: world.replace("f", "lib/new", 2), lambda: world.erase("f", "lib/new"),
                     lambda: world.install("g", "q"), lambda: world.uninstall("f", "p"),
                     lambda: world.define("q", Package()), lambda: world.open_farm("h", "q")]:
            call()
            found.append(state(world))
        self.assertEqual(world.deeds, 13)
        while len(found) > 1:
            self.assertEqual(state(world), found.pop())
            self.assertIsNone(world.undo())
        self.assertEqual(state(world), found[0])
        while world.deeds:
            world.undo()
        self.assertEqual(world, World())
        self.check(("NothingToUndo",), world.undo, world)
        world.define("a", Package())
        self.assertEqual(world.deeds, 1)

    def test_a_refused_call_is_no_deed(self):
        world = small_world()
        deeds = world.deeds
        self.check(("Taken", "bin"), lambda: world.write("f", "bin", 1), world)
        self.assertEqual(world.deeds, deeds)

    def test_equal_worlds(self):
        one, other = small_world(), small_world()
        self.assertEqual(one, other)
        one.write("f", "x", 1)
        self.assertNotEqual(one, other)
        one.erase("f", "x")
        self.assertEqual(one, other)
        self.assertNotEqual(one.deeds, other.deeds)
        one.uninstall("g", "p")
        self.assertNotEqual(one, other)
        for thing in other_values():
            self.assertFalse(one == thing)
        one.undo()
        self.assertTrue(one == other)
        one.open_farm("z")
        self.assertNotEqual(one, other)

    def test_worlds_share_nothing(self):
        package = Package({"a": None})
        worlds = [World(), World()]
        for world in worlds:
            world.define("p", package)
            world.open_farm("f", "p")
        worlds[0].write("f", "a/x", 1)
        self.assertEqual(worlds[1].package("p"), Package({"a": None}))
        self.assertEqual(package, Package({"a": None}))
        self.assertEqual(worlds[1].deeds, 2)


class Trials(Checks):
    def test_taken_back(self):
        world = small_world()
        before = state(world)
        with world.trial() as given:
            self.assertIs(given, world)
            self.assertEqual(world.deeds, 0)
            self.assertEqual(raised(world.undo), ("NothingToUndo",))
            world.write("f", "lib/new", 1)
            world.define("q", Package())
            self.assertEqual(world.deeds, 2)
            world.undo()
            self.assertEqual(world.deeds, 1)
            self.assertEqual(world.shown("f", "doc"), "folder")
        self.assertEqual(state(world), before)
        world.undo()
        self.assertEqual(world.farms, ["f"])

    def test_left_by_an_error(self):
        world = small_world()
        before = state(world)
        for error in [KeyError("x"), errors.Taken("x")]:
            with self.assertRaises(type(error)) as caught:
                with world.trial():
                    world.write("f", "lib/new", 1)
                    raise error
            self.assertIs(caught.exception, error)
            self.assertEqual(state(world), before)

    def test_within_one_another(self):
        world = small_world()
        before = state(world)
        self.nest(world, 4)
        self.assertEqual(state(world), before)

    def nest(self, world, depth):
        if depth == 0:
            return
        name = "n" + "abcd"[depth - 1]
        with world.trial():
            self.assertEqual(world.deeds, 0)
            world.write("f", name, 1)
            within = state(world)
            self.nest(world, depth - 1)
            self.assertEqual(state(world), within)
            world.undo()
            self.assertEqual(raised(world.undo), ("NothingToUndo",))
            self.assertEqual(world.shown("f", name), "nothing")

    def test_tried(self):
        world = small_world()
        before = state(world)

        def change(given):
            self.assertIs(given, world)
            given.write("f", "lib/new", 1)
            return given.deeds, given.shown("f", "lib/new")

        self.assertEqual(world.tried(change), (1, "file"))
        self.assertEqual(state(world), before)
        self.assertEqual(world.tried(function=lambda given: given.tried(change)), (1, "file"))
        self.check(("NoFarm", 7), lambda: world.tried(lambda given: given.define("q", Package()) or given.own(7)), world)


class Ahead(Checks):
    def test_by_hand(self):
        world = World()
        world.define("p", Package({"lib": None, "share": "lib", "z/up": ""}))
        world.define("q", Package({"more": "lib", "a": "share"}))
        world.open_farm("f", "p")
        world.open_farm("g", "p", "q")
        world.open_farm("h", "q")
        self.assertEqual(world.ahead("f", "lib/x", "f"), "lib/x")
        self.assertEqual(world.ahead("f", "share/x", "g"), "a/x")
        self.assertIsNone(world.ahead("f", "lib/x", "h"))
        self.assertEqual([world.count_ahead("f", "share/x", "g", length) for length in range(6)], [0, 0, 4, 0, 4, 0])
        self.assertEqual([world.count_ahead("f", "lib/x", "h", length) for length in range(4)], [0, 0, 0, 0])
        # What lands in the own entries is seen in this farm alone.
        self.assertEqual(world.landing("f", "x"), (None, "x"))
        self.assertEqual(world.ahead("f", "x", "f"), "x")
        self.assertIsNone(world.ahead("f", "x", "g"))
        self.assertEqual([world.count_ahead(farm="f", path="x", other="f", length=length) for length in range(6)],
                         [0, 1, 0, 1, 0, 1])
        self.assertEqual(world.count_ahead("f", "x", "f", 199), 1)
        self.assertEqual(world.ahead(farm="f", path="z/x", other="f"), "z/x")

    def test_the_least_of_several_paths(self):
        world = World()
        world.define("p", Package({"t/u": None, "s": "x", "x/c": "t/u", "z": "t"}))
        world.define("q", Package({"s": "y", "y/a": "t/u", "z": "y"}))
        world.open_farm("f", "p", "q")
        # s leads to x, where c goes on, and to y, where a goes on.
        for path in ["t/u/new", "s/a/new", "s/c/new", "z/u/new"]:
            self.assertEqual(world.ahead("f", path, "f"), "s/a/new")
            self.assertEqual(world.count_ahead("f", path, "f", 3), 7)

    def test_great_numbers(self):
        world = World()
        world.define("p", Package({"a": "", "b": "", "c": None}))
        world.open_farm("f", "p")
        self.assertEqual(world.count_ahead("f", "c/x", "f", 200), 2 ** 198)
        self.assertEqual(world.ahead("f", "a/b/c/x", "f"), "c/x")

    def test_errors_in_order(self):
        world = small_world()
        for call in [lambda *told: world.ahead(*told), lambda *told: world.count_ahead(*told, 3)]:
            self.check(("NoFarm", "x"), lambda: call("x", "bin", "y"), world)
            self.check(("NoFarm", "y"), lambda: call("f", "bin", "y"), world)
            self.check(("Taken", "bin"), lambda: call("f", "bin", "g"), world)
            self.check(("Taken", ""), lambda: call("f", "", "g"), world)
            self.check(("NoFolder", "no"), lambda: call("f", "no/x", "g"), world)

    def test_what_write_would_refuse_does_not_matter(self):
        world = World()
        world.define("p", Package({deep(10): None, "b": deep(2)}))
        world.open_farm("f", "p")
        self.assertEqual(raised(lambda: world.write("f", deep(11), 1)), ("BadEntry", deep(11)))
        self.assertEqual(world.ahead("f", deep(11), "f"), "b/" + deep(9))
        self.assertEqual(world.count_ahead("f", deep(11), "f", 11), 1)
        self.assertEqual(world.count_ahead("f", deep(11), "f", 10), 1)
        self.assertEqual(world.count_ahead("f", deep(11), "f", 9), 0)
        world.define("q", Package({"a": None, **{"b" + name: 0 for name in flat(39)}}))
        world.open_farm("g", "q")
        self.assertEqual(raised(lambda: world.write("g", "a/x", 1)), ("TooMany", 40))
        self.assertEqual(world.ahead("g", "a/x", "g"), "a/x")
        self.assertEqual(world.count_ahead("g", "a/x", "g", 2), 1)

    def test_too_many_states(self):
        for farm, path in [(dealt(rings_from_one_path([5, 7, 16])), "t/new"), (window(12), "b/a/new")]:
            self.assertLess(len(farm), 6)
            world = World()
            for name in farm:
                world.define("w" + name, farm[name])
            world.define("z", Package({"lonely": None}))
            world.open_farm("f", "z")
            world.open_farm("g", "z", *["w" + name for name in farm])
            world.open_farm("h", *["w" + name for name in farm])
            self.assertEqual(world.ahead("f", "lonely/x", "g"), "lonely/x")
            self.assertIsNone(world.ahead("f", "lonely/x", "h"))
            self.assertEqual(world.count_ahead("f", "lonely/x", "f", 2), 1)
            for other in ["g", "h"]:
                self.check(("TooMany", 500), lambda: world.count_ahead("f", "lonely/x", other, 2), world)
                self.check(("Taken", "lonely"), lambda: world.count_ahead("f", "lonely", other, 2), world)
            self.assertEqual(world.ahead("h", path, "h"), path)


class Histories(unittest.TestCase):
    """Deeds of all kinds beside a plain world."""

    def setUp(self):
        self.dice = random.Random(151)

    def some_package(self):
        return random_package(self.dice, LETTERS, self.dice.choice([2, 4, 6]), True)

    def deed(self, world, plain):
        """The tuples (call of the world, call of the plain world) of a deed."""
        dice = self.dice
        kind = dice.choice(["define", "open", "change", "change"] + ["entry"] * 8)
        names = [dice.choice("pqrs") for _ in range(dice.randint(0, 2))]
        if kind == "define" or not plain.farms and kind != "open":
            name, package = dice.choice("pqrstuv"), self.some_package()
            return (lambda: world.define(name, package)), (lambda: plain.defined(name, package))
        if kind == "open":
            farm = dice.choice("abcde")
            return (lambda: world.open_farm(farm, *names)), (lambda: plain.opened(farm, *names))
        farm = dice.choice(sorted(plain.farms))
        if kind == "change":
            if dice.random() < 0.6:
                return (lambda: world.install(farm, *names)), (lambda: plain.installing(farm, *names))
            return (lambda: world.uninstall(farm, *names)), (lambda: plain.uninstalling(farm, *names))
        return self.entry_deed(world, plain, farm)

    def entry_deed(self, world, plain, farm):
        dice = self.dice
        told = plain.told(farm)
        paths = [path for path in all_paths(LETTERS, 3) if path]
        wanted = dice.choice(["nothing", "nothing", "file", "any"])
        good = [path for path in paths if wanted in ("any", told.shown(path))
                and (wanted != "nothing" or told.shown(path.rpartition("/")[0]) == "folder")]
        path, content = dice.choice(good or paths), dice.choice([0, 1, 1, 2])
        calls = [((lambda: world.write(farm, path, content)), (lambda: plain.entered(farm, path, content))),
                 ((lambda: world.make_folder(farm, path)), (lambda: plain.entered(farm, path, None))),
                 ((lambda: world.replace(farm, path, content)), (lambda: plain.replaced(farm, path, content))),
                 ((lambda: world.erase(farm, path)), (lambda: plain.erased(farm, path)))]
        return dice.choice(calls[2:] if wanted == "file" else calls[:2] if wanted == "nothing" else calls)

    def check_all(self, world, plain):
        self.assertEqual(world.packages, sorted(plain.packages))
        self.assertEqual(world.farms, sorted(plain.farms))
        for name in plain.packages:
            self.assertEqual(world.package(name), Package(plain.packages[name]))
        for farm in plain.farms:
            self.assertEqual(world.installed(farm), sorted(plain.farms[farm][0]))
            self.assertEqual(world.own(farm), Package(plain.farms[farm][1]))
            self.assertEqual(world.dict_of(farm), plain.farm_dict(farm))
            told = plain.told(farm)
            for path in self.dice.sample(all_paths(LETTERS, 3), 4):
                self.assertEqual(world.shown(farm, path), told.shown(path))
                self.assertEqual(shown(world.dict_of(farm), path), told.shown(path))
                self.assertEqual(world.owners(farm, path), plain.owners(farm, path))
                self.assertEqual(world.holders(farm, path), plain.holders(farm, path))
                if path:
                    self.assertEqual(world.landing(farm, path), plain.landing(farm, path))
                    self.check_ahead(world, plain, farm, path)

    def check_ahead(self, world, plain, farm, path):
        other = self.dice.choice(sorted(plain.farms))
        try:
            expected = plain.ahead(farm, path, other, 3)
        except Refused as refused:
            self.assertEqual(raised(lambda: world.ahead(farm, path, other)), refused.told)
            self.assertEqual(raised(lambda: world.count_ahead(farm, path, other, 3)), refused.told)
            return
        found = world.ahead(farm, path, other)
        if expected:
            self.assertEqual(found, expected[0])
        else:
            self.assertTrue(found is None or found.count("/") > 2)
        counts = [len([place for place in expected if place.count("/") + 1 == length]) for length in range(4)]
        self.assertEqual([world.count_ahead(farm, path, other, length) for length in range(4)], counts)
        self.check_after_write(world, farm, path, other, found)

    def check_after_write(self, world, farm, path, other, found):
        """What ahead told before a write holds after it."""
        with world.trial():
            told = raised(lambda: world.write(farm, path, 4))
            if told is None and found is not None:
                # At what was told the new file is seen, and with it whatever else is there has the same content.
                self.assertEqual(world.shown(other, found), "file")
                self.assertEqual(len(world.holders(other, found)), len(set(world.holders(other, found))))

    def test_beside_a_plain_world(self):
        done = refused = 0
        for _ in range(60):
            world, plain, stack = World(), PlainWorld(), []
            for _ in range(16):
                call, plain_call = self.deed(world, plain)
                before = state(world)
                try:
                    after, expected = plain_call()
                except Refused as error:
                    refused += 1
                    self.assertEqual(raised(call), error.told)
                    self.assertEqual(state(world), before)
                    continue
                done += 1
                stack.append(plain)
                plain = after
                self.assertEqual(call(), expected)
                self.assertEqual(world.deeds, len(stack))
                self.check_all(world, plain)
            while stack:
                plain = stack.pop()
                world.undo()
                self.assertEqual(world.packages, sorted(plain.packages))
                for farm in plain.farms:
                    self.assertEqual(world.dict_of(farm), plain.farm_dict(farm))
            self.assertEqual(world, World())
        self.assertGreater(done, 300)
        self.assertGreater(refused, 100)

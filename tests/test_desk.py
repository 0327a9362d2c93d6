"""The desk [19]."""

import random
import unittest

from linkfarms.desk import Desk
from linkfarms.errors import BadCommand
from linkfarms.farms import has, shown
from linkfarms.layouts import least_layout
from linkfarms.packages import Package
from linkfarms.worlds import World
from samples import deep, flat, other_values, wrong_paths
from some_farms import dealt, random_package, rings_from_one_path
from test_worlds import raised, state


def desk_of(*commands):
    desk = Desk()
    for command in commands:
        desk.say(command)
    return desk


START = ["define p bin folder; lib folder; same file 5; share to lib; bin/run file -1; lib/core file 2",
         "define q bin folder; same file 5; up to .; bin/more file 3", "define empty", "open f p q", "open g p"]


class Answers(unittest.TestCase):
    def test_by_hand(self):
        desk = Desk()
        for command in START:
            self.assertEqual(desk.say(command), "ok")
        for command, answer in [
                ("show f share/core", "file 2"), ("show f bin/run", "file -1"), ("show f .", "folder"),
                ("show f up/up", "folder"), ("show f no", "nothing"), ("landing f share/x", "p:lib/x"),
                ("landing f x", "own:x"), ("owners f bin", "p:bin q:bin"), ("owners f .", "own:. p:. q:."),
                ("owners f no", "none"), ("owners f up", "own:. p:. q:."), ("ahead g lib/x f", "lib/x"),
                ("ahead f up/x g", "none"), ("ahead g x g", "x"), ("links g", "0/bin=p:bin 0/lib=p:lib 0/same=p:same "
                                                                             "0/share=p:lib"),
                ("links f", "0/bin=1 0/lib=p:lib 0/same=p:same 0/share=p:lib 0/up=0 1/more=q:bin/more 1/run=p:bin/run"),
                ("write f share/new 12", "p:lib/new"), ("write f top -7", "own:top"), ("folder f up/dir", "own:up/dir"),
                ("replace g share/new 0", "p:lib/new"), ("replace f top 999999999999", "own:top"), ("erase g share/new", "p:lib/new"),
                ("show f top", "file 999999999999"), ("erase f top", "own:top"), ("show f top", "nothing"),
                ("open empty", "ok"), ("links empty", "none"), ("owners empty .", "own:."), ("show empty .", "folder"),
                ("write empty x 5", "own:x"), ("links empty", "0/x=own:x"), ("install empty q p", "ok"),
                ("uninstall empty q", "ok"), ("undo", "ok"), ("undo", "ok"), ("ahead f lib/z empty", "none"),
                ("install empty p q", "ok"), ("show empty bin/more", "file 3")]:
            self.assertEqual(desk.say(command), answer, command)
        self.assertEqual(desk.world().installed("empty"), ["p", "q"])
        self.assertIsInstance(desk.world(), World)
        self.assertIs(desk.world(), desk.world())
        self.assertEqual(desk.say(command="show f ."), "folder")

    def test_texts(self):
        desk = Desk()
        for package in [Package(), Package({"a/b": 1, "c": "", "d": "a/b", "e": None}), Package({deep(10): -5})]:
            self.assertEqual(desk.say(("define x " + str(package).replace("\n", "; ")).rstrip()), "ok")
            self.assertEqual(desk.world().package("x"), package)

    def test_the_world_itself(self):
        desk = Desk()
        desk.world().define("p", Package({"a": 1}))
        desk.say("open f p")
        self.assertEqual(desk.world().shown("f", "a"), "file")
        other = Desk()
        self.assertEqual(other.world(), World())


class WrongCommands(unittest.TestCase):
    def check(self, thing, expected=("BadCommand",)):
        desk = desk_of(*START)
        before = state(desk.world())
        self.assertEqual(raised(lambda: desk.say(thing)), expected, thing)
        self.assertEqual(state(desk.world()), before)

    def test_any_value(self):
        for thing in other_values() + wrong_paths() + ["", "Undo", "undos", "say", "define", "own", b"undo".decode() + "\n"]:
            self.check(thing)
        self.assertIsInstance(BadCommand(), ValueError)

    def test_words_left_out_put_in_or_wrong(self):
        good = ["define x a file 1", "open h p", "install g q", "uninstall f q", "undo", "write f x 1", "folder f x",
                "replace f bin/run 1", "erase f bin/run", "landing f x", "owners f x", "show f x", "ahead f x g", "links f"]
        for command in good:
            words = command.split(" ")
            self.assertIsNone(raised(lambda: desk_of(*START).say(command)))
            for bad in [" " + command, command + " ", command + "\n", "\n" + command, command.upper(),
                        command.replace(" ", "  ", 1) + ("" if " " in command else " "),
                        command.replace(" ", "\n", 1) + ("" if " " in command else "\n")]:
                self.check(bad)
            if words[0] not in ("define", "open", "install", "uninstall"):
                self.check(command + " x")
                self.check(command + " " + words[-1])
            for at in range(len(words)):
                left = words[:at] + words[at + 1:]
                # Any words may be ROWS, and those of open are all names.
                if not (words[0] == "define" and at > 0 or words[0] == "open" and at > 0):
                    self.check(" ".join(left))
            for at in range(1, len(words)):
                if not (words[0] == "define" and at > 1):
                    for bad in ["", "A", "a/", "/", "-", "1x", "abcdefghi", "..", "x;", "p,q", "01"]:
                        self.check(" ".join(words[:at] + [bad] + words[at + 1:]))

    def test_kinds_of_words(self):
        for bad in ["write f x", "write f x y", "write f x 01", "write f x -0", "write f x +1", "write f x 1000000000000",
                    "write f x 1.0", "write f/g x 1", "write . x 1", "write f ./x 1", "write f x/. 1", "show f .x",
                    "open . p", "open f/g", "open h .", "install g", "uninstall f", "install g p/q", "ahead f x .",
                    "ahead f x", "links .", "links f g", "undo undo", "define", "define .", "define a/b x file 1",
                    "define P x file 1", "owners f", "landing f", "folder f x 1", "erase f x 1", "replace f bin/run"]:
            self.check(bad)

    def test_ahead_of_all_other_errors(self):
        self.check("write none . x")
        self.check("define own x  file 1")
        self.check("open f p  q")
        self.check("install none p Q")


class Errors(unittest.TestCase):
    def setUp(self):
        self.desk = desk_of(*START)

    def check(self, command, *expected):
        before = state(self.desk.world())
        self.assertEqual(raised(lambda: self.desk.say(command)), expected, command)
        self.assertEqual(state(self.desk.world()), before)

    def test_as_the_methods_raise(self):
        for command, expected in [
                ("write z . 1", ("NoFarm", "z")), ("write f . 1", ("Taken", "")), ("write f no/x 1", ("NoFolder", "no")),
                ("write f bin 1", ("Taken", "bin")), ("folder f same", ("Taken", "same")), ("replace f . 1", ("NoFile", "")),
                ("erase f bin", ("NoFile", "bin")), ("erase f same", ("Shared", [("p", "same"), ("q", "same")])),
                ("open f p", ("Taken", "f")), ("open h p z", ("NoPackage", "z")), ("open h p p", ("Taken", "p")),
                ("install f p", ("Taken", "p")), ("install z p", ("NoFarm", "z")), ("uninstall g q", ("NoPackage", "q")),
                ("uninstall f p p", ("Taken", "p")), ("landing f .", ("NoFolder", "")), ("landing z .", ("NoFarm", "z")),
                ("owners z x", ("NoFarm", "z")), ("show own x", ("NoFarm", "own")), ("links z", ("NoFarm", "z")),
                ("ahead f x z", ("NoFarm", "z")), ("ahead z x f", ("NoFarm", "z")), ("ahead f bin g", ("Taken", "bin")),
                ("install g own", ("NoPackage", "own")),
                ("replace f bin/run 2", None), ("write f " + deep(11) + " 1", ("NoFolder", deep(10)))]:
            if expected is not None:
                self.check(command, *expected)
        empty = Desk()
        self.assertEqual(raised(lambda: empty.say("undo")), ("NothingToUndo",))

    def test_rows_first(self):
        for rows, row in [("a", 0), ("a file", 0), ("a file 01", 0), ("a file 1; a file 1", 1), ("b folder; a folder", 1),
                          ("a/b file 1", 0), ("a folder ; b folder", 0), ("a folder; ", None), ("a folder;", 0),
                          ("a folder;b folder", 0), ("; a folder", 0), ("a folder; b to ./x", 1), ("A folder", 0),
                          ("a folder; b folder x", 1), ("a file 1; a/b file 2", 1), ("a to a; b to /", 1), ("a ;; b", 0)]:
            for name in ["z", "own"]:
                if row is not None:
                    self.check(f"define {name} {rows}", "BadText", row)
        self.check("define z a folder; ", "BadCommand")
        many = "; ".join(f"{name} folder" for name in sorted(flat(41), key=lambda name: (len(name), name)))
        sorted_many = "; ".join(f"{name} folder" for name in sorted(flat(41)))
        self.assertNotEqual(many, sorted_many)
        self.check("define own " + sorted_many, "TooMany", 40)
        self.check("define own a file 1", "BadName", "own")
        self.check("define own", "BadName", "own")
        for name in "stu":
            self.desk.say("define " + name)
        self.check("define v a file 1", "TooMany", 6)
        self.check("define v " + sorted_many, "TooMany", 40)
        self.check("define v a file x", "BadText", 0)
        self.check("define p same file 6", "Clash", "f", "same")

    def test_too_many_states(self):
        farm = dealt(rings_from_one_path([5, 7, 16]))
        desk = Desk()
        for name in farm:
            desk.world().define(name, farm[name])
        desk.say("open f " + " ".join(farm))
        self.assertEqual(raised(lambda: desk.say("links f")), ("TooMany", 500))
        self.assertEqual(desk.say("show f t/x"), "folder")


class BesideAWorld(unittest.TestCase):
    """Commands beside the calls of another world."""

    def test_histories(self):
        dice = random.Random(191)
        answers = 0
        for _ in range(60):
            desk, world = Desk(), World()
            for _ in range(25):
                command, call = self.command(dice, world)
                expected = raised(lambda: self.results.append(call()))
                self.assertEqual(raised(lambda: self.answers.append(desk.say(command))), expected, command)
                if expected is None:
                    answers += 1
                    self.assertEqual(self.answers.pop(), self.results.pop(), command)
                self.assertEqual(desk.world(), world)
                self.assertEqual(desk.world().deeds, world.deeds)
        self.assertGreater(answers, 400)

    def setUp(self):
        self.answers, self.results = [], []

    def command(self, dice, world):
        """A command, and the call of a world that answers it."""
        farm, other, name = dice.choice("fgf"), dice.choice("fg"), dice.choice("pqr")
        path = "/".join(dice.choice("abc") for _ in range(dice.randint(0, 3)))
        word, number = path or ".", dice.choice([0, 1, -5])
        names = [dice.choice("pqr") for _ in range(dice.randint(1, 2))]
        package = random_package(dice, ["a", "b", "c"], 4, True)
        rows = str(package).replace("\n", "; ")
        place = lambda pair: ("own" if pair[0] is None else pair[0]) + ":" + (pair[1] or ".")
        kinds = [
            (f"define {name} {rows}".rstrip(), lambda: world.define(name, package) or "ok"),
            (f"open {farm} {names[0]}", lambda: world.open_farm(farm, names[0]) or "ok"),
            (f"open {farm}", lambda: world.open_farm(farm) or "ok"),
            ("install " + " ".join([farm] + names), lambda: world.install(farm, *names) or "ok"),
            ("uninstall " + " ".join([farm] + names), lambda: world.uninstall(farm, *names) or "ok"),
            ("undo", lambda: world.undo() or "ok"),
            (f"replace {farm} {word} {number}", lambda: place(world.replace(farm, path, number))),
            (f"erase {farm} {word}", lambda: place(world.erase(farm, path))),
            (f"links {farm}", lambda: self.links(world.dict_of(farm))),
        ] + 2 * [
            (f"write {farm} {word} {number}", lambda: place(world.write(farm, path, number))),
            (f"folder {farm} {word}", lambda: place(world.make_folder(farm, path))),
            (f"landing {farm} {word}", lambda: place(world.landing(farm, path))),
            (f"owners {farm} {word}", lambda: " ".join(map(place, world.owners(farm, path))) or "none"),
            (f"show {farm} {word}", lambda: self.show(world.dict_of(farm), path)),
            (f"ahead {farm} {word} {other}", lambda: world.ahead(farm, path, other) or "none"),
        ]
        return dice.choice(kinds[:3] if dice.random() < 0.2 else kinds)

    def links(self, farm):
        return " ".join(f"{joint}/{name}={target if isinstance(target, int) else ':'.join(target)}"
                        for joint, name, target in least_layout(farm).links()) or "none"

    def show(self, farm, path):
        word = shown(farm, path)
        return f"file {has(farm, path)[1][0]}" if word == "file" else word

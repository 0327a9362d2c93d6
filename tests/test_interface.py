"""The interface: names, arguments, and where each function, class and method is defined [2]."""

import inspect
import unittest

from linkfarms import desk, keeps, layouts, looker, packages, papers, plans, worlds
from linkfarms.layouts import Layout, least_layout
from linkfarms.packages import Package
from test_keeps import exchange

FUNCTIONS = {
    layouts.least_layout: "(packages)",
    layouts.missing: "(packages, layout)",
    layouts.reached: "(packages, layout, path)",
    layouts.differing: "(packages, layout)",
    layouts.is_least: "(packages, layout)",
    layouts.renumbered: "(layout)",
    keeps.pairs: "(packages, old, new)",
    keeps.meeting: "(packages, old, new, pair)",
    keeps.is_keep: "(packages, old, new, thing)",
    keeps.servers: "(packages, old, new, keep)",
    keeps.turns: "(packages, old, new, keep)",
    keeps.waits: "(packages, old, new, keep)",
    keeps.ring: "(packages, old, new, keep)",
    keeps.greatest_keep: "(packages, old, new)",
    keeps.fewest_makes: "(packages, old, new)",
    plans.plan: "(packages, old, new, *, keep=None)",
    plans.stops: "(old, deeds)",
    plans.makes: "(deeds)",
    looker.fault: "(packages, old, new, deeds)",
    looker.is_straight: "(deeds)",
    papers.paper: "(packages, path)",
    papers.holds: "(packages, thing)",
}
METHODS = {
    (packages, "Package"): {
        "kind": "(self, path)", "content": "(self, path)", "target": "(self, path)", "names": "(self, path)",
        "is_plain": "(self, thing)", "items": "(self)", "changed": "(self, path, item)", "without": "(self, path)",
    },
    (layouts, "Layout"): {
        "__init__": "(self, tables, *, top=0)", "tables": "(self)", "seen": "(self)", "links": "(self)",
        "__contains__": None, "__eq__": None, "__len__": None, "__repr__": None,
    },
    (worlds, "World"): {
        "__init__": "(self)", "define": "(self, name, package)", "open_farm": "(self, farm, *names)",
        "install": "(self, farm, *names)", "uninstall": "(self, farm, *names)", "write": "(self, farm, path, content)",
        "make_folder": "(self, farm, path)", "replace": "(self, farm, path, content)", "erase": "(self, farm, path)",
        "shown": "(self, farm, path)", "owners": "(self, farm, path)", "holders": "(self, farm, path)",
        "landing": "(self, farm, path)", "ahead": "(self, farm, path, other)",
        "count_ahead": "(self, farm, path, other, length)", "undo": "(self)", "trial": "(self)",
        "tried": "(self, function)", "package": "(self, name)", "own": "(self, farm)", "installed": "(self, farm)",
        "dict_of": "(self, farm)", "__contains__": None, "__eq__": None, "__len__": None,
    },
    (desk, "Desk"): {"__init__": "(self)", "say": "(self, command)", "world": "(self)"},
}
PROPERTIES = {(packages, "Package"): ["files", "folders", "references"], (layouts, "Layout"): ["top"],
              (worlds, "World"): ["packages", "farms", "deeds"]}


class Interface(unittest.TestCase):
    def test_functions(self):
        for function, text in FUNCTIONS.items():
            self.assertEqual(str(inspect.signature(function)), text)
            module = inspect.getmodule(function)
            self.assertIn(module, [keeps, layouts, looker, papers, plans])
            self.assertIs(getattr(module, function.__name__), function)

    def test_methods_stand_in_the_class_itself(self):
        for (module, name), methods in METHODS.items():
            thing = getattr(module, name)
            self.assertEqual(thing.__module__, module.__name__)
            for method, text in methods.items():
                self.assertIn(method, vars(thing))
                if text is not None:
                    self.assertEqual(str(inspect.signature(vars(thing)[method])), text, method)
        for (module, name), properties in PROPERTIES.items():
            for one in properties:
                self.assertIsInstance(vars(getattr(module, name))[one], property)

    def test_by_position_and_by_name(self):
        farm, old, new = exchange()
        given = {"packages": farm, "old": old, "new": new, "layout": new, "path": "a/x", "pair": (1, 2),
                 "thing": ((0, 0),), "keep": ((0, 0), (1, 2)), "deeds": plans.plan(farm, old, new)}
        for function in FUNCTIONS:
            names = [name for name, told in inspect.signature(function).parameters.items()
                     if told.kind == told.POSITIONAL_OR_KEYWORD]
            told = {name: given[name] for name in reversed(names)}
            by_position = function(*[given[name] for name in names])
            if inspect.isgenerator(by_position):
                self.assertEqual(list(by_position), list(function(**told)))
            else:
                self.assertEqual(by_position, function(**told), function.__name__)
                self.assertEqual(by_position, function(*[given[name] for name in names]))

    def test_kinds_of_values(self):
        farm, old, new = exchange()
        keep = ((0, 0), (1, 2))
        for value, kind in [
                (keeps.pairs(farm, old, new), list), (keeps.servers(farm, old, new, keep), dict),
                (keeps.turns(farm, old, new, keep), list), (keeps.waits(farm, old, new, keep), list),
                (keeps.greatest_keep(farm, old, new), tuple), (plans.plan(farm, old, new), list),
                (old.seen(), list), (old.tables(), dict), (least_layout(farm), Layout), (papers.paper(farm, "d"), tuple)]:
            self.assertIs(type(value), kind)
        self.assertTrue(inspect.isgenerator(old.links()))
        self.assertTrue(inspect.isgenerator(plans.stops(old, [])))
        self.assertIs(looker.is_straight([]), True)

    def test_plain_folders_of_any_value(self):
        package = Package({"a/b": 1, "c/d": "a", "e": None})
        self.assertEqual([thing for thing in ["", "a", "a/b", "c", "c/d", "e", None, 1, ["a"], {}, ("a",)]
                          if package.is_plain(thing)], ["a", "e"])

"""The general rules [2] for the functions of farms: arguments, wrong paths, what stays as it is."""

import inspect
import unittest

from linkfarms import comparing, contexts, counting, farms
from linkfarms.errors import BadPath
from linkfarms.packages import Package
from samples import other_values, wrong_paths
from some_farms import dealt, random_farms, ring, window

SIGNATURES = {
    farms.shown: "(packages, path)",
    farms.has: "(packages, path)",
    farms.sources: "(packages, path)",
    farms.names: "(packages, path)",
    farms.clash: "(packages)",
    farms.states: "(packages)",
    counting.count: "(packages, length, *, kind='file')",
    counting.walk: "(packages, *, kind=None)",
    counting.find: "(packages, content)",
    comparing.parting: "(one, other)",
    comparing.count_parting: "(one, other, length)",
    contexts.leads: "(packages, path, target)",
    contexts.covers: "(one, other)",
    contexts.parting_beside: "(one, other)",
    contexts.needless: "(packages)",
    contexts.reduced: "(packages)",
}
FARM = {"p": Package({"a": "b", "b/x": 1, "c/c": ""}), "q": Package({"b/y": "a", "a": "b"})}
OTHER = {"p": Package({"a": "b", "b/x": 2})}
GIVEN = {"packages": FARM, "one": FARM, "other": OTHER, "path": "c/c/a", "target": "b", "length": 3, "content": 1}



def first_of(walked):
    return [row for row, number in zip(walked, range(30))]


def given_to(function):
    """The arguments that have no default value, by their names."""
    told = inspect.signature(function).parameters
    return {name: GIVEN[name] for name in told if told[name].default is inspect.Parameter.empty}


def called(function, arguments):
    result = function(**arguments)
    return first_of(result) if inspect.isgenerator(result) else result


class Calls(unittest.TestCase):
    def test_signatures(self):
        for function, text in SIGNATURES.items():
            self.assertEqual(str(inspect.signature(function)), text)

    def test_each_is_defined_in_its_file(self):
        listed = {
            farms: "shown has sources names clash states",
            counting: "count walk find",
            comparing: "parting count_parting",
            contexts: "leads covers parting_beside needless reduced",
        }
        for module, names in listed.items():
            for name in names.split():
                self.assertIn(getattr(module, name), SIGNATURES)
                self.assertEqual(getattr(module, name).__module__, module.__name__)

    def test_by_position_and_by_name(self):
        for function in SIGNATURES:
            arguments = given_to(function)
            by_name = called(function, dict(reversed(list(arguments.items()))))
            result = function(*arguments.values())
            by_position = first_of(result) if inspect.isgenerator(result) else result
            self.assertEqual(by_name, by_position, function.__name__)

    def test_kinds_by_name_only(self):
        self.assertEqual(counting.count(packages=FARM, length=1, kind="folder"), 3)
        self.assertEqual(first_of(counting.walk(packages=FARM, kind="folder"))[0], ("", "folder"))
        with self.assertRaises(TypeError):
            counting.count(FARM, 1, "folder")
        with self.assertRaises(TypeError):
            counting.walk(FARM, "folder")

    def test_kinds_of_values(self):
        self.assertIsInstance(farms.has(FARM, "a")[0], bool)
        self.assertIsInstance(farms.has(FARM, "a"), tuple)
        self.assertIsInstance(farms.has(FARM, "a")[1], tuple)
        self.assertIs(farms.has(FARM, "q")[0], False)
        self.assertIsInstance(farms.sources(FARM, "a"), list)
        self.assertIsInstance(farms.names(FARM, "a"), list)
        self.assertTrue(inspect.isgenerator(counting.walk(FARM)))
        self.assertEqual(next(counting.walk(FARM)), ("", "folder"))
        self.assertIsInstance(contexts.needless(FARM), list)
        self.assertIsInstance(contexts.needless(FARM)[0], tuple)
        self.assertIsInstance(contexts.reduced(FARM), dict)
        for function in [contexts.covers, comparing.parting, contexts.parting_beside]:
            function({}, {})


class WrongPaths(unittest.TestCase):
    def test_any_value_in_the_place_of_a_path(self):
        for packages in [{}, FARM, dealt(ring(3)), window(30)]:
            for value in other_values() + wrong_paths() + [["a", "b"], ("a", "b"), packages]:
                for function in [farms.shown, farms.has, farms.sources, farms.names]:
                    self.check(value, function, packages, value)
                    self.check(value, function, packages, path=value)
                self.check(value, contexts.leads, packages, value, "a")
                self.check(value, contexts.leads, packages, "a", value)
                self.check(value, contexts.leads, packages, path=value, target="/")
                self.check("/", contexts.leads, packages, target=value, path="/")

    def check(self, value, function, *arguments, **named):
        with self.assertRaises(BadPath) as caught:
            function(*arguments, **named)
        self.assertIs(caught.exception.path, value)
        self.assertIsInstance(caught.exception, ValueError)

    def test_paths_of_any_length(self):
        for path in ["", "a", "/".join(["abcdefgh"] * 200), "/".join(["c", "c"] * 1000)]:
            for function in [farms.shown, farms.has, farms.sources, farms.names]:
                function(FARM, path)
            self.assertTrue(contexts.leads(FARM, path, path))


class Stays(unittest.TestCase):
    def test_the_arguments(self):
        for farm in random_farms(15, 121) + [FARM]:
            texts = [(name, str(farm[name])) for name in farm]
            objects = [farm[name] for name in farm]
            for function in SIGNATURES:
                arguments = {**given_to(function), **{
                    name: farm for name in ["packages", "one"] if name in given_to(function)}}
                called(function, arguments)
                self.assertEqual([(name, str(farm[name])) for name in farm], texts)
                self.assertTrue(all(farm[name] is thing for name, thing in zip(farm, objects)))

    def test_returned_lists_and_dicts_may_be_changed(self):
        for function in [farms.sources, farms.names]:
            expected = function(FARM, "a")
            changed = function(FARM, "a")
            changed.append("more")
            self.assertEqual(function(FARM, "a"), expected)
        changed = contexts.needless(FARM)
        changed.clear()
        self.assertEqual(contexts.needless(FARM), [("p", "a"), ("q", "a")])
        changed = contexts.reduced(FARM)
        expected = dict(changed)
        changed.clear()
        self.assertEqual(contexts.reduced(FARM), expected)
        again = contexts.reduced(expected)
        self.assertIsNot(again, expected)
        again["more"] = Package()
        self.assertNotIn("more", expected)

    def test_a_farm_that_is_changed_later(self):
        farm = dict(FARM)
        steps = counting.walk(farm)
        first = next(steps)
        farm.clear()
        self.assertEqual([first] + first_of(steps)[:5], first_of(counting.walk(FARM))[:6])

    def test_the_order_of_the_keys(self):
        for farm in random_farms(15, 122, packages=5) + [FARM]:
            turned = {name: farm[name] for name in reversed(list(farm))}
            for function in SIGNATURES:
                arguments = given_to(function)
                for name in ["packages", "one"]:
                    if name in arguments:
                        one = called(function, {**arguments, name: farm})
                        other = called(function, {**arguments, name: turned})
                        self.assertEqual(one, other, function.__name__)

    def test_equal_calls_return_equal_results(self):
        for function in SIGNATURES:
            self.assertEqual(called(function, given_to(function)), called(function, given_to(function)))

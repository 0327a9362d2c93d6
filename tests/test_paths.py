"""[4] Names and paths."""

import itertools
import unittest

from linkfarms.errors import BadName, BadPath
from linkfarms.paths import in_order, is_below, is_name, is_path, names_of, parent, path_of
from samples import deep, other_values, wrong_paths

NAMES = ["a", "z", "ab", "abcdefgh", "zzzzzzzz"]
PATHS = ["", "a", "zzzzzzzz", "a/b", "abcdefgh/abcdefgh", "a/a/a", deep(10), deep(11), deep(200), deep(250)]


class Names(unittest.TestCase):
    def test_names(self):
        for name in NAMES:
            self.assertIs(is_name(name), True)

    def test_lengths(self):
        for many in range(0, 12):
            self.assertIs(is_name("q" * many), 1 <= many <= 8)

    def test_each_character_alone_and_beside_letters(self):
        for code in list(range(0, 300)) + [0xe9, 0x661, 0x430, 0x1d41a]:
            letter = chr(code)
            right = "a" <= letter <= "z"
            for text in [letter, "a" + letter, letter + "z", "ab" + letter + "cd"]:
                self.assertIs(is_name(text), right, repr(text))

    def test_other_values_are_no_names(self):
        for thing in other_values() + wrong_paths() + ["", "a/b"]:
            self.assertIs(is_name(thing), False, repr(thing))

    def test_arguments_by_name(self):
        self.assertIs(is_name(thing="a"), True)
        self.assertIs(is_path(thing="a/b"), True)


class Paths(unittest.TestCase):
    def test_paths(self):
        for path in PATHS:
            self.assertIs(is_path(path), True, path)

    def test_wrong_strings(self):
        for text in wrong_paths():
            self.assertIs(is_path(text), False, repr(text))

    def test_a_wrong_name_anywhere(self):
        for at in range(200):
            for wrong in ["", "A", "abcdefghi", "a.b"]:
                parts = ["ab"] * 200
                parts[at] = wrong
                self.assertIs(is_path("/".join(parts)), False)

    def test_short_strings_by_the_definition(self):
        for many in range(5):
            for letters in itertools.product("az/A", repeat=many):
                text = "".join(letters)
                right = text == "" or all([part != "" and "A" not in part for part in text.split("/")])
                self.assertIs(is_path(text), right, text)

    def test_other_values_are_no_paths(self):
        for thing in other_values():
            self.assertIs(is_path(thing), False, repr(thing))


class TakenApart(unittest.TestCase):
    def test_names_of(self):
        self.assertEqual(names_of(""), ())
        self.assertEqual(names_of("a"), ("a",))
        self.assertEqual(names_of(path="ab/c/abcdefgh"), ("ab", "c", "abcdefgh"))
        self.assertEqual(names_of(deep(200)), ("a",) * 200)
        self.assertIsInstance(names_of("a/b"), tuple)

    def test_path_of(self):
        self.assertEqual(path_of(), "")
        self.assertEqual(path_of("a"), "a")
        self.assertEqual(path_of("ab", "c", "abcdefgh"), "ab/c/abcdefgh")
        self.assertEqual(path_of(*["a"] * 300), deep(300))

    def test_they_undo_each_other(self):
        for path in PATHS:
            self.assertEqual(path_of(*names_of(path)), path)
        for many in range(4):
            for names in itertools.product(NAMES, repeat=many):
                self.assertEqual(names_of(path_of(*names)), names)

    def test_path_of_raises_for_the_first_value_that_is_no_name(self):
        wrong = other_values() + wrong_paths() + ["", "a/b"]
        for value in wrong:
            for names in [[value], ["a", value], [value, "a"], ["a", value, "B", None]]:
                with self.assertRaises(BadName) as caught:
                    path_of(*names)
                self.assertIs(caught.exception.name, value)

    def test_parent(self):
        self.assertIsNone(parent(""))
        self.assertEqual(parent("a"), "")
        self.assertEqual(parent("a/b"), "a")
        self.assertEqual(parent(path="ab/c/abcdefgh"), "ab/c")
        self.assertEqual(parent(deep(200)), deep(199))

    def test_below(self):
        for path in PATHS + ["ab", "ab/a", "aa"]:
            self.assertIs(is_below(path, ""), path != "")
            self.assertIs(is_below(path, path), False)
            self.assertIs(is_below(path_of(*names_of(path), "a"), path), True)
        self.assertIs(is_below("ab/a", "a"), False)
        self.assertIs(is_below("a", "a/b"), False)

    def test_bad_paths(self):
        for value in other_values() + wrong_paths():
            for function in [names_of, parent]:
                with self.assertRaises(BadPath) as caught:
                    function(value)
                self.assertIs(caught.exception.path, value)


class Order(unittest.TestCase):
    def test_by_the_number_of_names_first(self):
        self.assertEqual(in_order(["a/b", "z", "", "a/a/a", "b"]), ["", "b", "z", "a/b", "a/a/a"])

    def test_then_as_lists_of_names(self):
        given = ["ab/a", "a/z", "a/ab", "aa/a", "a/b", "b/a", "a/a"]
        self.assertEqual(in_order(given), ["a/a", "a/ab", "a/b", "a/z", "aa/a", "ab/a", "b/a"])

    def test_against_lists_of_names(self):
        names = ["a", "aa", "ab", "b", "ba"]
        paths = ["/".join(row) for many in range(1, 4) for row in itertools.product(names, repeat=many)]
        paths = paths[::-1] + [""]
        expected = sorted(paths, key=lambda path: (len(path.split("/")) if path else 0, path.split("/")))
        self.assertEqual(in_order(paths), expected)

    def test_the_list_stays_and_the_result_is_new(self):
        given = ["b", "a", "b"]
        result = in_order(paths=given)
        self.assertEqual(result, ["a", "b", "b"])
        self.assertEqual(given, ["b", "a", "b"])
        ordered = ["a", "b"]
        result = in_order(ordered)
        result.append("c")
        self.assertEqual(ordered, ["a", "b"])
        self.assertEqual(in_order([]), [])

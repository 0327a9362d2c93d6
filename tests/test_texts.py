"""[18] The texts of packages."""

import re
import unittest

from linkfarms.errors import BadText, TooMany
from linkfarms.packages import Package
from samples import bounds, deep, flat, other_values, some_packages

NAME = "[a-z]{1,8}"
ROW = re.compile(
    f"({NAME}(?:/{NAME}){{0,9}}) "
    f"(?:(folder)|file (?:0|-?[1-9][0-9]{{0,11}})|to (?:[.]|{NAME}(?:/{NAME}){{0,7}}))")


def first_wrong(text):
    """The index of the first wrong row, None if there is none: the promise, said in other words."""
    if text == "":
        return None
    folders = {()}
    earlier = []
    for at, row in enumerate(text.split("\n")):
        match = ROW.fullmatch(row)
        if not match:
            return at
        names = match.group(1).split("/")
        key = (len(names), names)
        if tuple(names[:-1]) not in folders or any([key <= other for other in earlier]):
            return at
        earlier.append(key)
        if match.group(2):
            folders.add(tuple(names))
    return None


def all_packages():
    return bounds() + some_packages()


class Written(unittest.TestCase):
    def test_each_kind_of_row(self):
        rows = {
            "a folder": {"a": None}, "a file 0": {"a": 0}, "a file -5": {"a": -5}, "a to .": {"a": ""},
            "a to b/c": {"a": "b/c"}, "": {}, "a folder\na/b folder\na/b/c file 12": {"a/b/c": 12},
            "a file 999999999999": {"a": 999999999999}, "a file -999999999999": {"a": -999999999999},
            "ab folder\nb to b\nab/c to .": {"b": "b", "ab/c": ""},
        }
        for text, entries in rows.items():
            self.assertEqual(str(Package(entries)), text)
            self.assertEqual(Package.from_text(text), Package(entries))

    def test_rows_stand_in_path_order(self):
        package = Package({"z": 1, "a/b/c": 2, "a/z": "", "aa": None, "b/a": 3})
        expected = ["a folder", "aa folder", "b folder", "z file 1", "a/b folder", "a/z to .", "b/a file 3",
                    "a/b/c file 2"]
        self.assertEqual(str(package).split("\n"), expected)

    def test_reading_gives_an_equal_package(self):
        for package in all_packages():
            text = str(package)
            self.assertIsNone(first_wrong(text))
            again = Package.from_text(text)
            self.assertEqual(again, package)
            self.assertEqual(list(again.items()), list(package.items()))
            self.assertEqual(str(again), text)
            self.assertIsInstance(again, Package)
        self.assertEqual(Package.from_text(text="a folder"), Package({"a": None}))


class Refused(unittest.TestCase):
    def check(self, text):
        """Read a text, and compare with what the promise says."""
        wrong = first_wrong(text)
        if wrong is None:
            self.assertEqual(str(Package.from_text(text)), text)
            return
        with self.assertRaises(BadText) as caught:
            Package.from_text(text)
        self.assertEqual(caught.exception.row, wrong, repr(text))

    def test_values_that_are_no_strings(self):
        for value in other_values():
            with self.assertRaises(BadText) as caught:
                Package.from_text(value)
            self.assertEqual(caught.exception.row, -1)

    def test_wrong_rows_at_each_index(self):
        rows = str(Package({"b/d": 5, "c": "b", "d/e/f": None})).split("\n")
        wrong = [
            "", " ", "b", "b ", "b  folder", "b folder ", " b folder", "b Folder", "b folders", "b file", "b file ",
            "b file x", "b file 01", "b file 00", "b file -0", "b file -01", "b file +1", "b file --1", "b file 1-",
            "b file -", "b file 1 2", "b file 1.5", "b file 1_0", "b file 1000000000000", "b file -1000000000000",
            "b file " + "9" * 2000, "b to", "b to ", "b to /", "b to ..", "b to ./b", "b to b/", "b to B",
            "b to " + deep(9), "b to abcdefghi", "b to b c", "b folder 5", "b folder .", "b to b to b", "folder",
            "file 5", "to b", ". folder", "/b folder", "b/ folder", "B folder", "b1 folder", "abcdefghi folder",
            deep(11) + " folder", "b\tfolder", "b folder\r", "b is b", "b file 1 ", "b file \u0661", "b file \u00b2",
        ]
        for row in wrong:
            for at in range(len(rows) + 1):
                text = "\n".join(rows[:at] + [row] + rows[at:])
                with self.assertRaises(BadText) as caught:
                    Package.from_text(text)
                self.assertEqual(caught.exception.row, at, repr(text))

    def test_order_and_parents(self):
        wrong = {
            "b folder\na folder": 1, "a folder\na folder": 1, "a file 1\na file 2": 1, "a/b folder": 0,
            "a file 1\na/b folder": 1, "a to .\na/b folder": 1, "a folder\na/b/c folder": 1,
            "a folder\na/b folder\nb folder": 2, "a folder\nb/c folder": 1, "a folder\nab/c folder": 1,
            "a folder\nb folder\nb/a folder\na/a folder": 3, "a folder\n": 1, "\na folder": 0, "\n": 0,
            "a folder\n\nb folder": 1, "a\nB": 0, "a folder\nb": 1,
        }
        for text, row in wrong.items():
            with self.assertRaises(BadText) as caught:
                Package.from_text(text)
            self.assertEqual(caught.exception.row, row, repr(text))

    def test_rows_left_out_doubled_and_exchanged(self):
        for package in all_packages():
            rows = str(package).split("\n")
            for at in range(len(rows)):
                self.check("\n".join(rows[:at] + rows[at + 1:]))
                self.check("\n".join(rows[:at + 1] + rows[at:]))
                for other in range(at):
                    mixed = list(rows)
                    mixed[at], mixed[other] = mixed[other], mixed[at]
                    self.check("\n".join(mixed))

    def test_words_left_out_doubled_exchanged_and_replaced(self):
        for package in some_packages(25) + bounds()[:9]:
            rows = [row.split(" ") for row in str(package).split("\n")]
            for at, words in enumerate(rows):
                for k in range(len(words)):
                    others = [words[:k] + words[k + 1:], words[:k + 1] + words[k:], words[::-1]]
                    for word in ["", ".", "0", "-1", "to", "file", "folder", "a", "a/a", "zz", deep(9), deep(11)]:
                        others.append(words[:k] + [word] + words[k + 1:])
                    for changed in others:
                        self.check("\n".join([" ".join(row) for row in rows[:at] + [changed] + rows[at + 1:]]))

    def test_characters_left_out_doubled_exchanged_and_replaced(self):
        for package in some_packages(12) + bounds()[:9]:
            text = str(package)
            for at in range(len(text)):
                self.check(text[:at] + text[at + 1:])
                self.check(text[:at + 1] + text[at:])
                self.check(text[:at] + text[at:at + 2][::-1] + text[at + 2:])
                for letter in "\n /.-0az":
                    self.check(text[:at] + letter + text[at + 1:])
                    self.check(text[:at] + letter + text[at:])

    def test_too_many_rows(self):
        rows = [f"{path} file {item}" for path, item in sorted(flat(60).items(), key=lambda row: row[0])]
        self.assertEqual(len(Package.from_text("\n".join(rows[:40]))), 40)
        for many in [41, 42, 60]:
            with self.assertRaises(TooMany) as caught:
                Package.from_text("\n".join(rows[:many]))
            self.assertEqual(caught.exception.limit, 40)

    def test_wrong_rows_come_before_too_many(self):
        rows = [f"{path} file {item}" for path, item in sorted(flat(60).items(), key=lambda row: row[0])]
        for at in [0, 20, 39, 40, 41, 60]:
            with self.assertRaises(BadText) as caught:
                Package.from_text("\n".join(rows[:at] + ["A"] + rows[at:]))
            self.assertEqual(caught.exception.row, at)

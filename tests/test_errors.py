"""The errors: fields and bases."""

import unittest

from linkfarms import errors
from samples import other_values

LISTED = {
    ValueError: {
        "BadPath": ["path"], "BadName": ["name"], "BadEntry": ["path"], "BadContent": ["value"],
        "BadLayout": ["joint", "name"], "BadKeep": [], "BadDeed": ["index"], "BadText": ["row"], "BadCommand": [],
    },
    TypeError: {"BadPackage": ["value"]},
    KeyError: {"NoEntry": ["path"], "NoTarget": ["joint", "name"], "NoPackage": ["name"], "NoFarm": ["name"]},
    LookupError: {"NoFile": ["path"], "NoFolder": ["path"], "NoReference": ["path"], "Shared": ["places"]},
    RuntimeError: {"Clash": ["farm", "path"], "Taken": ["name"], "NotOrderly": ["ring"], "NothingToUndo": []},
    OverflowError: {"TooMany": ["limit"]},
}


def listed():
    """Tuples (class, base, fields) of all errors."""
    return [
        (getattr(errors, name), base, fields)
        for base, rows in LISTED.items()
        for name, fields in rows.items()
    ]


class Errors(unittest.TestCase):
    def test_each_has_the_base_that_is_listed(self):
        for error, base, _ in listed():
            self.assertIs(error.__base__, base)
            self.assertEqual(error.__module__, "linkfarms.errors")

    def test_none_is_a_subclass_of_another_one(self):
        classes = [error for error, _, _ in listed()]
        self.assertEqual(len(classes), 23)
        for one in classes:
            for other in classes:
                self.assertEqual(issubclass(one, other), one is other)

    def test_the_fields_are_the_arguments_by_position(self):
        values = other_values() + ["", "a", "a/b"]
        for error, _, fields in listed():
            for at in range(len(values)):
                given = [values[(at + step) % len(values)] for step in range(len(fields))]
                made = error(*given)
                for field, value in zip(fields, given):
                    self.assertIs(getattr(made, field), value)

    def test_the_fields_are_the_arguments_by_name(self):
        for error, base, fields in listed():
            given = {field: [field] for field in fields}
            with self.assertRaises(base) as caught:
                raise error(**given)
            self.assertEqual(vars(caught.exception), given)

    def test_the_number_of_arguments(self):
        for error, _, fields in listed():
            if fields:
                with self.assertRaises(TypeError):
                    error()
                with self.assertRaises(TypeError):
                    error(*fields, "more")

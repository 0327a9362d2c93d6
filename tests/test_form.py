"""The form of the package: some rules of LANGUAGE.md that a test can see."""

import ast
import pathlib
import re
import unittest

FOLDER = pathlib.Path(__file__).resolve().parent.parent / "linkfarms"
# Spelt in halves, so that this file may be read by the same rules.
BARRED = ["ty" + "pe", "ty" + "ping", "enu" + "m", "Enu" + "m", "AB" + "C", "Proto" + "col", "named" + "tuple"]
BUILTINS = """len range enumerate zip min max sum abs sorted reversed int str bool list tuple dict set isinstance ord
repr any all divmod iter next ValueError TypeError KeyError LookupError OverflowError RuntimeError property classmethod
staticmethod NotImplemented""".split()
SPECIAL = re.compile("__[a-z]+__")


def files():
    return sorted(path for path in FOLDER.rglob("*") if path.is_file() and "__pycache__" not in path.parts)


def trees():
    return [(path, ast.parse(path.read_text(encoding="utf-8"))) for path in files()]


def nodes(*kinds):
    return [(path.name, node) for path, tree in trees() for node in ast.walk(tree) if isinstance(node, kinds)]


class Form(unittest.TestCase):
    def test_files(self):
        self.assertIn(FOLDER / "__init__.py", files())
        for path in files():
            self.assertRegex(path.name, "^[a-z0-9_]+[.]py$")
            self.assertEqual(path.parent, FOLDER)

    def test_sizes_and_characters(self):
        for path in files():
            text = path.read_text(encoding="utf-8")
            self.assertLessEqual(len(text.split("\n")), 399, path.name)
            for row in text.split("\n"):
                self.assertLessEqual(len(row), 120, path.name)
                self.assertTrue(all([" " <= letter <= "~" for letter in row]), (path.name, row))
            for word in BARRED:
                self.assertNotRegex(text, rf"\b{word}\b")
        for name, node in nodes(ast.FunctionDef):
            self.assertLessEqual(node.end_lineno - node.lineno + 1, 40, (name, node.name))

    def test_imports(self):
        for name, node in nodes(ast.Import, ast.ImportFrom):
            self.assertIsInstance(node, ast.ImportFrom, name)
            self.assertEqual(node.level, 0, name)
            self.assertTrue(node.module.startswith("linkfarms."), (name, node.module))
            self.assertNotIn("*", [alias.name for alias in node.names])

    def test_names(self):
        for name, node in nodes(ast.Name, ast.Attribute, ast.arg, ast.FunctionDef, ast.ClassDef):
            word = getattr(node, "id", None) or getattr(node, "attr", None) or getattr(node, "arg", None) or node.name
            if not SPECIAL.fullmatch(word):
                self.assertRegex(word, "^[A-Za-z][A-Za-z0-9_]*$", name)

    def test_builtins(self):
        known = dir(__builtins__) if not isinstance(__builtins__, dict) else list(__builtins__)
        for name, node in nodes(ast.Name):
            if node.id in known:
                self.assertIn(node.id, BUILTINS, name)
                self.assertIsInstance(node.ctx, ast.Load, name)

    def test_statements_that_the_rules_exclude(self):
        excluded = nodes(ast.Global, ast.AsyncFunctionDef, ast.Await, ast.Div, ast.AnnAssign)
        self.assertEqual([(name, ast.dump(node)) for name, node in excluded], [])
        for name, node in nodes(ast.Constant):
            self.assertNotIsInstance(node.value, (float, complex), name)
            if isinstance(node.value, str):
                self.assertNotIn("%", node.value, name)

    def test_no_call_has_the_name_of_the_generator_items(self):
        # [L23] Package.items is a generator, so the package calls no method of this name, not even that of a dict.
        calls = [(name, node.lineno) for name, node in nodes(ast.Call)
                 if isinstance(node.func, ast.Attribute) and node.func.attr == "items"]
        self.assertEqual(calls, [])

    def test_no_function_has_the_name_of_a_generator(self):
        defined = [node for name, node in nodes(ast.FunctionDef)]
        generators = [node.name for node in defined if any(isinstance(part, ast.Yield) for part in ast.walk(node))]
        self.assertIn("walk", generators)
        for name in generators:
            self.assertEqual(len([node for node in defined if node.name == name]), 1, name)

    def test_no_name_is_a_method_and_an_attribute(self):
        methods = {part.name for name, node in nodes(ast.ClassDef) for part in node.body
                   if isinstance(part, ast.FunctionDef)}
        stored = {node.attr for name, node in nodes(ast.Attribute) if isinstance(node.ctx, ast.Store)}
        self.assertEqual(methods & stored, set())
        read = {node.attr for name, node in nodes(ast.Attribute) if isinstance(node.ctx, ast.Load)}
        self.assertIn("places", stored & read)

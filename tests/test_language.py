"""The rules of the language that a test can tell plainly: files, imports, sizes, characters, builtins and methods."""

import ast
import builtins
import pathlib
import unittest

PACKAGE = pathlib.Path(__file__).resolve().parent.parent / "lineends"
BUILTINS = """len range enumerate zip min max sum abs sorted reversed int str bool bytes list tuple dict set isinstance
    ord repr any all divmod pow Exception ValueError TypeError KeyError IndexError LookupError ZeroDivisionError super
    property classmethod staticmethod NotImplemented iter next map""".split()


class LanguageTest(unittest.TestCase):
    def setUp(self):
        self.files = sorted(PACKAGE.glob("*.py"))
        self.trees = {path: ast.parse(path.read_text()) for path in self.files}

    def nodes(self, kind):
        return [node for tree in self.trees.values() for node in ast.walk(tree) if isinstance(node, kind)]

    def test_the_folder_contains_python_files_only(self):
        found = sorted(path for path in PACKAGE.iterdir() if path.name != "__pycache__")
        self.assertEqual(found, self.files)
        self.assertIn(PACKAGE / "__init__.py", found)

    def test_imports_are_from_the_package(self):
        self.assertEqual(self.nodes(ast.Import), [])
        for node in self.nodes(ast.ImportFrom):
            self.assertEqual(node.level, 0)
            self.assertIn(node.module.split(".")[0], ["lineends", "heapq", "math", "itertools", "collections"])

    def test_sizes_and_characters(self):
        for path in self.files:
            lines = path.read_text().split("\n")
            self.assertLessEqual(len(lines), 400, path)
            for line in lines:
                self.assertLessEqual(len(line), 120, path)
                self.assertTrue(all(" " <= sign <= "~" for sign in line), (path, line))
        for node in self.nodes(ast.FunctionDef):
            self.assertLessEqual(node.end_lineno - node.lineno + 1, 40, node.name)

    def test_builtins(self):
        known = [name for name in vars(builtins) if not name.startswith("_")]
        used = {node.id for node in self.nodes(ast.Name) if node.id in known}
        self.assertEqual(sorted(used - set(BUILTINS)), [])

    def test_no_floats_and_no_division(self):
        self.assertEqual(self.nodes(ast.Div), [])
        values = [node.value for node in self.nodes(ast.Constant)]
        self.assertEqual([value for value in values if isinstance(value, float)], [])
        self.assertEqual([value for value in values if isinstance(value, str) and "%" in value], [])

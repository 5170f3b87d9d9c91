"""Tests of the rules for the package's files that are easily broken by oversight."""

import ast
import pathlib
import unittest

PACKAGE = pathlib.Path(__file__).resolve().parent.parent / "digitwise"
FILES = sorted(PACKAGE.rglob("*.py"))

# What each file of the interface defines itself.
INTERFACE = {
    "errors": ["Refused", "Malformed", "Unknown", "Clashing", "Oversized", "Misused"],
    "lexer": ["tokens", "is_name"],
    "terms": ["linear", "plus", "minus", "times", "value", "is_term", "rename_term", "show_term"],
    "formulas": ["is_formula", "free_names", "all_names", "node_count", "levels", "rename", "show_formula"],
}
IMPORTED = ["heapq", "math", "itertools", "collections", "__future__"]


class Rules(unittest.TestCase):
    def test_the_folder_holds_nothing_else(self):
        others = [path for path in PACKAGE.rglob("*") if path.is_file() and path not in FILES]
        self.assertEqual([path for path in others if path.suffix != ".pyc"], [])
        self.assertIn(PACKAGE / "__init__.py", FILES)

    def test_lines_and_characters(self):
        for path in FILES:
            text = path.read_text(encoding="utf-8")
            with self.subTest(path=path.name):
                self.assertLessEqual(len(text.splitlines()), 399)
                self.assertLessEqual(max([len(line) for line in text.splitlines()]), 120)
                self.assertTrue(all([character == "\n" or " " <= character <= "~" for character in text]))

    def test_functions_are_short(self):
        for path in FILES:
            for node in ast.walk(ast.parse(path.read_text(encoding="utf-8"))):
                if isinstance(node, ast.FunctionDef):
                    with self.subTest(path=path.name, function=node.name):
                        self.assertLessEqual(node.end_lineno - node.lineno + 1, 40)

    def test_imports(self):
        for path in FILES:
            for node in ast.walk(ast.parse(path.read_text(encoding="utf-8"))):
                with self.subTest(path=path.name):
                    self.assertNotIsInstance(node, ast.Import)
                    if isinstance(node, ast.ImportFrom):
                        self.assertEqual(node.level, 0)
                        self.assertIn(node.module.split(".")[0], ["digitwise", *IMPORTED])

    def test_each_file_defines_its_part_of_the_interface(self):
        for name, wanted in INTERFACE.items():
            tree = ast.parse((PACKAGE / f"{name}.py").read_text(encoding="utf-8"))
            defined = [node.name for node in tree.body if isinstance(node, (ast.FunctionDef, ast.ClassDef))]
            self.assertEqual([each for each in wanted if each not in defined], [])


if __name__ == "__main__":
    unittest.main()

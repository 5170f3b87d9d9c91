"""Tests of the rules for the package's files that are easily broken by oversight."""

import ast
import builtins
import pathlib
import unittest

PACKAGE = pathlib.Path(__file__).resolve().parent.parent / "digitwise"
FILES = sorted(PACKAGE.rglob("*.py"))

# What each file of the interface defines itself.
INTERFACE = {
    "errors": ["Refused", "Malformed", "Unknown", "Clashing", "Oversized", "Misused"],
    "lexer": ["tokens", "is_name"],
    "terms": ["linear", "plus", "minus", "times", "value", "is_term", "rename_term", "show_term"],
    "formulas": ["is_formula", "free_names", "all_names", "node_count", "levels", "rename", "show_formula"],
    "book": ["Book", "check_formula"],
    "digits": ["letters", "digit", "letter_of", "word_of", "numbers_of", "with_track", "without_track"],
    "machine": ["Machine", "all_or_none"],
    "told": ["Told", "powers"],
    "parser": ["parse_formula", "parse_book"],
    "products": ["both", "both_with_pairs", "complement"],
    "tracks": ["spread", "spread_with_states", "fix"],
    "project": ["ranks", "some", "some_with_sets"],
    "least": ["classes", "least", "least_with_map", "same", "apart"],
    "linear": ["equation", "at_most"],
    "compiler": ["Compiler", "compile_formula"],
    "witness": ["least_number", "next_number", "least_tuple", "witness"],
    "decide": ["decide", "is_valid", "can_be_met", "are_same", "difference"],
    "counting": ["count_below", "is_finite", "count_all", "first_numbers"],
    "paper": ["paper_of", "claim", "step_text"],
    "judge": ["bad_step", "accepts", "decision"],
}
# What each class of the interface defines in its own body.
METHODS = {
    ("book", "Book"): [
        "__init__", "define", "tell", "parameters", "formula", "told", "has_definition", "has_word", "definitions",
        "words",
    ],
    ("machine", "Machine"): ["__init__", "size", "behind", "accepts", "takes", "shape"],
    ("told", "Told"): ["__init__", "output", "machine"],
    ("compiler", "Compiler"): ["__init__", "compiled", "definition"],
}
IMPORTED = ["heapq", "math", "itertools", "collections", "__future__"]

BUILTINS = [
    "len", "range", "enumerate", "zip", "min", "max", "sum", "abs", "sorted", "reversed", "int", "str", "bool", "list",
    "tuple", "dict", "set", "isinstance", "ord", "repr", "any", "all", "divmod", "ValueError", "KeyError", "property",
]


def imported(path):
    """Return the set of the package's files that a file imports from."""
    tree = ast.parse(path.read_text(encoding="utf-8"))
    modules = [node.module for node in tree.body if isinstance(node, ast.ImportFrom)]
    return {module.split(".")[-1] for module in modules if module.startswith("digitwise.")}


class Rules(unittest.TestCase):
    def test_the_folder_holds_nothing_else(self):
        others = [path for path in PACKAGE.rglob("*") if path.is_file() and path not in FILES]
        self.assertEqual([path for path in others if path.suffix != ".pyc"], [])
        self.assertIn(PACKAGE / "__init__.py", FILES)

    def test_lines_and_characters(self):
        for path in FILES:
            text = path.read_text(encoding="utf-8")
            with self.subTest(path=path.name):
                self.assertLessEqual(len(text.splitlines()), 399)
                self.assertLessEqual(max([len(line) for line in text.splitlines()]), 120)
                self.assertTrue(all([character == "\n" or " " <= character <= "~" for character in text]))

    def test_functions_are_short(self):
        for path in FILES:
            for node in ast.walk(ast.parse(path.read_text(encoding="utf-8"))):
                if isinstance(node, ast.FunctionDef):
                    with self.subTest(path=path.name, function=node.name):
                        self.assertLessEqual(node.end_lineno - node.lineno + 1, 40)

    def test_imports(self):
        for path in FILES:
            for node in ast.walk(ast.parse(path.read_text(encoding="utf-8"))):
                with self.subTest(path=path.name):
                    self.assertNotIsInstance(node, ast.Import)
                    if isinstance(node, ast.ImportFrom):
                        self.assertEqual(node.level, 0)
                        self.assertIn(node.module.split(".")[0], ["digitwise", *IMPORTED])

    def test_each_file_defines_its_part_of_the_interface(self):
        for name, wanted in INTERFACE.items():
            tree = ast.parse((PACKAGE / f"{name}.py").read_text(encoding="utf-8"))
            defined = [node.name for node in tree.body if isinstance(node, (ast.FunctionDef, ast.ClassDef))]
            self.assertEqual([each for each in wanted if each not in defined], [])

    def test_each_class_defines_its_methods_itself(self):
        for (file, name), wanted in METHODS.items():
            tree = ast.parse((PACKAGE / f"{file}.py").read_text(encoding="utf-8"))
            [found] = [node for node in tree.body if isinstance(node, ast.ClassDef) and node.name == name]
            defined = [node.name for node in found.body if isinstance(node, ast.FunctionDef)]
            self.assertEqual([each for each in wanted if each not in defined], [])

    def test_only_allowed_builtins_are_read(self):
        for path in FILES:
            for node in ast.walk(ast.parse(path.read_text(encoding="utf-8"))):
                # The name _ is there because the examples of README.md have been run.
                if isinstance(node, ast.Name) and hasattr(builtins, node.id) and node.id != "_":
                    with self.subTest(path=path.name, name=node.id):
                        self.assertIsInstance(node.ctx, ast.Load)
                        self.assertIn(node.id, BUILTINS)
                if isinstance(node, ast.arg):
                    self.assertFalse(hasattr(builtins, node.arg) and node.arg != "_", node.arg)

    def test_strings_hold_no_percent_sign(self):
        for path in FILES:
            for node in ast.walk(ast.parse(path.read_text(encoding="utf-8"))):
                if isinstance(node, ast.Constant) and isinstance(node.value, str):
                    self.assertNotIn("%", node.value)

    def test_no_two_files_import_from_each_other(self):
        imports = {path.stem: imported(path) for path in FILES}
        while imports:
            free = [name for name, others in imports.items() if not others & set(imports)]
            self.assertNotEqual(free, [], f"these import from each other: {sorted(imports)}")
            imports = {name: imports[name] for name in imports if name not in free}


if __name__ == "__main__":
    unittest.main()

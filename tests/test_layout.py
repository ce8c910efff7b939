"""Where the interface stands, and the plain limits on the files of the package."""

import ast
import importlib
import unittest
from pathlib import Path

PACKAGE = Path(__file__).resolve().parent.parent / "pastenough"

ALLOWED_MODULES = ("__future__", "heapq", "math", "itertools")

INTERFACE = {
    "errors": (
        "PastError", "NoBranch", "TooShort", "TooLong", "TooManyBranches", "BadScheme", "BadCounter", "BadBranch",
        "BadOutcome", "NothingToUndo", "NoCell", "NoPredictor", "BadText", "BadLine", "NoTrace",
    ),
    "traces": (
        "is_trace", "is_pattern", "is_scheme", "is_counter", "branches", "outcomes_of", "all_outcomes", "trace_of",
        "root_of", "turned",
    ),
    "histories": ("history_at", "cell_at", "steady_history", "steady_cells", "steady_from", "fold"),
    "clashes": ("groups", "clashes", "first_clash", "is_sure", "shows_clash", "table", "shows_table"),
    "lengths": ("least_length", "reason", "reach", "longest_factor"),
    "counters": (
        "predicted", "value_after", "counted", "value_map", "fixed_values", "settled_value", "settled_errors",
        "changes",
    ),
    "running": ("errors_in", "errors_by_branch", "predictions"),
    "far": ("steady_errors", "settles", "total_errors", "last_error"),
    "fixed": ("table_errors", "fewest_errors", "best_table", "forced", "shows_forced"),
    "budgets": ("profile", "shortest_within", "cells_used", "leanest", "compared"),
    "patterns": ("count_patterns", "patterns", "primitive_count", "full_pattern", "full_count"),
    "ways": ("leads_to", "is_way", "way_of", "pattern_of", "ways_count"),
    "folding": ("meetings", "harmful", "least_bits"),
}


def source_files():
    return [path for path in sorted(PACKAGE.iterdir()) if path.name != "__pycache__"]


class InterfaceTest(unittest.TestCase):
    def test_each_name_is_defined_in_its_file(self):
        for file, names in INTERFACE.items():
            tree = ast.parse((PACKAGE / f"{file}.py").read_text(encoding="utf-8"))
            defined = [node.name for node in tree.body if isinstance(node, (ast.FunctionDef, ast.ClassDef))]
            module = importlib.import_module(f"pastenough.{file}")
            for name in names:
                with self.subTest(file=file, name=name):
                    self.assertEqual(defined.count(name), 1)
                    self.assertEqual(getattr(module, name).__module__, module.__name__)


class FilesTest(unittest.TestCase):
    def test_the_package_is_one_folder_of_plain_files(self):
        names = [path.name for path in source_files()]
        self.assertIn("__init__.py", names)
        self.assertEqual([name for name in names if not name.endswith(".py") or name != name.lower()], [])

    def test_lines_and_characters(self):
        for path in source_files():
            text = path.read_text(encoding="utf-8")
            with self.subTest(file=path.name):
                self.assertEqual(sorted({sign for sign in text if not " " <= sign <= "~"} - {"\n"}), [])
                self.assertLessEqual(len(text.splitlines()), 399)
                self.assertEqual([line for line in text.splitlines() if len(line) > 120], [])

    def test_functions_are_small(self):
        for path in source_files():
            for node in ast.walk(ast.parse(path.read_text(encoding="utf-8"))):
                if isinstance(node, ast.FunctionDef):
                    with self.subTest(file=path.name, function=node.name):
                        self.assertLessEqual(node.end_lineno - node.lineno + 1, 40)

    def test_imports_are_of_the_package_or_of_what_the_language_allows(self):
        for path in source_files():
            for node in ast.walk(ast.parse(path.read_text(encoding="utf-8"))):
                with self.subTest(file=path.name):
                    self.assertNotIsInstance(node, ast.Import)
                    if isinstance(node, ast.ImportFrom) and node.module not in ALLOWED_MODULES:
                        self.assertTrue(node.module.startswith("pastenough."), node.module)


if __name__ == "__main__":
    unittest.main()

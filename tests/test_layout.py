"""Where the interface stands, and the plain limits on the files of the package."""

import ast
import importlib
import inspect
import unittest
from pathlib import Path

PACKAGE = Path(__file__).resolve().parent.parent / "pastenough"

ALLOWED_MODULES = ("__future__", "heapq", "math", "itertools")

INTERFACE = {
    "errors": (
        "PastError", "NoBranch", "TooShort", "TooLong", "TooManyBranches", "BadScheme", "BadCounter", "BadBranch",
        "BadOutcome", "NothingToUndo", "NoCell", "NoPredictor", "BadText", "BadLine", "NoTrace",
    ),
    "traces": (
        "is_trace", "is_pattern", "is_scheme", "is_counter", "branches", "outcomes_of", "all_outcomes", "trace_of",
        "root_of", "turned",
    ),
    "histories": ("history_at", "cell_at", "steady_history", "steady_cells", "steady_from", "fold"),
    "clashes": ("groups", "clashes", "first_clash", "is_sure", "shows_clash", "table", "shows_table"),
    "lengths": ("least_length", "reason", "reach", "longest_factor"),
    "counters": (
        "predicted", "value_after", "counted", "value_map", "fixed_values", "settled_value", "settled_errors",
        "changes",
    ),
    "running": ("errors_in", "errors_by_branch", "predictions"),
    "far": ("steady_errors", "settles", "total_errors", "last_error"),
    "fixed": ("table_errors", "fewest_errors", "best_table", "forced", "shows_forced"),
    "budgets": ("profile", "shortest_within", "cells_used", "leanest", "compared"),
    "patterns": ("count_patterns", "patterns", "primitive_count", "full_pattern", "full_count"),
    "ways": ("leads_to", "is_way", "way_of", "pattern_of", "ways_count"),
    "folding": ("meetings", "harmful", "least_bits"),
    "weaving": ("woven", "rounds_in"),
    "live": ("Predictor", "Trial", "tried"),
    "texts": (
        "show_trace", "show_pattern", "show_scheme", "show_counter", "read_trace", "read_pattern", "read_scheme",
        "read_counter", "report",
    ),
    "desk": ("Desk",),
}

METHODS = {
    ("live", "Predictor"): (
        "__init__", "predict", "history", "cell", "learn", "__call__", "learn_all", "undo", "scheme", "counter",
        "errors", "learned", "__getitem__", "__contains__", "__len__", "__iter__", "copy", "__eq__",
    ),
    ("live", "Trial"): ("__init__", "__enter__", "__exit__"),
    ("desk", "Desk"): ("__init__", "say"),
}

# A parameter behind the * is by name only.
PARAMETERS = {
    "errors.NoBranch": "value", "errors.TooShort": "reach", "errors.TooLong": "limit",
    "errors.TooManyBranches": "limit", "errors.BadScheme": "value", "errors.BadCounter": "value",
    "errors.BadBranch": "value", "errors.BadOutcome": "value", "errors.NothingToUndo": "", "errors.NoCell": "value",
    "errors.NoPredictor": "", "errors.BadText": "text", "errors.BadLine": "line", "errors.NoTrace": "",
    "traces.is_trace": "value", "traces.is_pattern": "value", "traces.is_scheme": "value", "traces.is_counter": "value",
    "traces.branches": "trace", "traces.outcomes_of": "trace branch", "traces.all_outcomes": "trace",
    "traces.trace_of": "pattern", "traces.root_of": "items", "traces.turned": "trace steps",
    "histories.history_at": "trace scheme moment", "histories.cell_at": "trace scheme moment",
    "histories.steady_history": "trace scheme position", "histories.steady_cells": "trace scheme",
    "histories.steady_from": "trace scheme", "histories.fold": "history bits branch",
    "clashes.groups": "trace scheme", "clashes.clashes": "trace scheme", "clashes.first_clash": "trace scheme",
    "clashes.is_sure": "trace scheme", "clashes.shows_clash": "trace scheme value", "clashes.table": "trace scheme",
    "clashes.shows_table": "trace scheme value",
    "lengths.least_length": "trace word * bits=0", "lengths.reason": "trace word * bits=0", "lengths.reach": "pattern",
    "lengths.longest_factor": "pattern",
    "counters.predicted": "bits value", "counters.value_after": "bits value outcome",
    "counters.counted": "counter outcomes", "counters.value_map": "bits outcomes",
    "counters.fixed_values": "bits outcomes", "counters.settled_value": "counter outcomes",
    "counters.settled_errors": "counter outcomes", "counters.changes": "outcomes",
    "running.errors_in": "trace scheme counter rounds", "running.errors_by_branch": "trace scheme counter rounds",
    "running.predictions": "trace scheme counter rounds",
    "far.steady_errors": "trace scheme counter", "far.settles": "trace scheme counter",
    "far.total_errors": "trace scheme counter rounds", "far.last_error": "trace scheme counter",
    "fixed.table_errors": "trace scheme table", "fixed.fewest_errors": "trace scheme",
    "fixed.best_table": "trace scheme", "fixed.forced": "trace scheme", "fixed.shows_forced": "trace scheme value",
    "budgets.profile": "trace word longest * bits=0", "budgets.shortest_within": "trace word errors * bits=0",
    "budgets.cells_used": "trace scheme", "budgets.leanest": "trace errors",
    "budgets.compared": "trace counter one other",
    "patterns.count_patterns": "outcomes length", "patterns.patterns": "outcomes length",
    "patterns.primitive_count": "number", "patterns.full_pattern": "length", "patterns.full_count": "length",
    "ways.leads_to": "node", "ways.is_way": "length value", "ways.way_of": "pattern length", "ways.pattern_of": "way",
    "ways.ways_count": "length nodes",
    "folding.meetings": "trace length bits", "folding.harmful": "trace length bits",
    "folding.least_bits": "trace length",
    "weaving.woven": "one other", "weaving.rounds_in": "one other",
    "live.Predictor": "scheme counter", "live.Predictor.predict": "self branch",
    "live.Predictor.history": "self branch", "live.Predictor.cell": "self branch",
    "live.Predictor.learn": "self branch outcome",
    "live.Predictor.__call__": "self branch outcome", "live.Predictor.learn_all": "self trace rounds",
    "live.Predictor.undo": "self", "live.Predictor.copy": "self", "live.Trial": "predictor",
    "live.tried": "predictor look",
    "texts.show_trace": "trace", "texts.show_pattern": "pattern", "texts.show_scheme": "scheme",
    "texts.show_counter": "counter", "texts.read_trace": "text", "texts.read_pattern": "text",
    "texts.read_scheme": "text", "texts.read_counter": "text", "texts.report": "trace scheme counter rounds",
    "desk.Desk": "", "desk.Desk.say": "self line",
}


def source_files():
    return [path for path in sorted(PACKAGE.iterdir()) if path.name != "__pycache__"]


def source_of(file):
    return ast.parse((PACKAGE / f"{file}.py").read_text(encoding="utf-8"))


def told_parameters(thing):
    """The parameters as one text, with a * ahead of those that are by name only."""
    words = []
    for parameter in inspect.signature(thing).parameters.values():
        if parameter.kind is parameter.KEYWORD_ONLY and "*" not in words:
            words.append("*")
        words.append(str(parameter))
    return " ".join(words)


class InterfaceTest(unittest.TestCase):
    def test_each_name_is_defined_in_its_file(self):
        for file, names in INTERFACE.items():
            defined = [node.name for node in source_of(file).body if isinstance(node, (ast.FunctionDef, ast.ClassDef))]
            module = importlib.import_module(f"pastenough.{file}")
            for name in names:
                with self.subTest(file=file, name=name):
                    self.assertEqual(defined.count(name), 1)
                    self.assertEqual(getattr(module, name).__module__, module.__name__)

    def test_each_method_is_defined_in_the_body_of_its_class(self):
        for (file, name), methods in METHODS.items():
            bodies = [node.body for node in source_of(file).body if getattr(node, "name", None) == name]
            defined = [node.name for node in bodies[0] if isinstance(node, ast.FunctionDef)]
            for method in methods:
                with self.subTest(name=name, method=method):
                    self.assertEqual(defined.count(method), 1)

    def test_the_names_and_the_order_of_all_parameters(self):
        told = {path for path in PARAMETERS if path.count(".") == 1}
        listed = {f"{file}.{name}" for file, names in INTERFACE.items() for name in names}
        self.assertEqual(listed - told, {"errors.PastError"})
        for path, parameters in PARAMETERS.items():
            file, _, names = path.partition(".")
            thing = importlib.import_module(f"pastenough.{file}")
            for name in names.split("."):
                thing = getattr(thing, name)
            with self.subTest(path=path):
                self.assertEqual(told_parameters(thing), parameters)


class FilesTest(unittest.TestCase):
    def test_the_package_is_one_folder_of_plain_files(self):
        names = [path.name for path in source_files()]
        self.assertIn("__init__.py", names)
        self.assertEqual([name for name in names if not name.endswith(".py") or name != name.lower()], [])

    def test_lines_and_characters(self):
        for path in source_files():
            text = path.read_text(encoding="utf-8")
            with self.subTest(file=path.name):
                self.assertEqual(sorted({sign for sign in text if not " " <= sign <= "~"} - {"\n"}), [])
                self.assertLessEqual(len(text.splitlines()), 399)
                self.assertEqual([line for line in text.splitlines() if len(line) > 120], [])

    def test_functions_are_small(self):
        for path in source_files():
            for node in ast.walk(ast.parse(path.read_text(encoding="utf-8"))):
                if isinstance(node, ast.FunctionDef):
                    with self.subTest(file=path.name, function=node.name):
                        self.assertLessEqual(node.end_lineno - node.lineno + 1, 40)

    def test_imports_are_of_the_package_or_of_what_the_language_allows(self):
        for path in source_files():
            for node in ast.walk(ast.parse(path.read_text(encoding="utf-8"))):
                with self.subTest(file=path.name):
                    self.assertNotIsInstance(node, ast.Import)
                    if isinstance(node, ast.ImportFrom) and node.module not in ALLOWED_MODULES:
                        self.assertTrue(node.module.startswith("pastenough."), node.module)


if __name__ == "__main__":
    unittest.main()

"""Point [0], the form of the interface, and the sizes of the files."""

import ast
import inspect
from pathlib import Path

from passplaces import console, costs, crossings, errors, listing, live, orders, plans, texts, ways
from tests.helpers import Case

FOLDER = Path(__file__).resolve().parent.parent / "passplaces"
FILES = sorted(FOLDER.rglob("*.py"))

# What would read a clock, files, the environment or other parts of Python.
BARRED = {
    "open", "input", "print", "eval", "exec", "compile", "__import__", "globals", "vars",
    "locals", "id", "hash", "breakpoint", "exit", "quit",
}

INTERFACE = {
    ways.Way: {
        "__init__": "(self, rights, lefts, places)",
        "is_size": "(rights, lefts, places)",
        "square": "(walkers)",
        "__len__": "(self)",
        "__eq__": "(self, other)",
        "allowed": "(self, right, left)",
        "allowing": "(self, right, left, *places)",
        "closing": "(self, *places, right=None, left=None)",
        "mirrored": "(self)",
    },
    plans.Plan: {
        "__init__": "(self, way, cells)",
        "is_plan": "(way, cells)",
        "leftmost": "(way)",
        "rightmost": "(way)",
        "__eq__": "(self, other)",
        "place": "(self, right, left)",
        "lowest": "(self, *others)",
        "highest": "(self, *others)",
        "is_left_of": "(self, other)",
        "distance": "(self, other)",
        "shifts": "(self)",
        "path_to": "(self, other)",
    },
    crossings.Crossing: {
        "__init__": "(self, way)",
        "go_right": "(self, number)",
        "go_left": "(self, number)",
        "meet": "(self, right, left)",
        "run": "(self, *steps)",
        "plan": "(self)",
    },
    crossings.LoggedCrossing: {
        "__init__": "(self, way)",
        "undo": "(self)",
    },
    live.LiveWay: {
        "__init__": "(self, way)",
        "__len__": "(self)",
        "__eq__": "(self, other)",
        "close": "(self, *places, right=None, left=None)",
        "allow": "(self, right, left, *places)",
        "undo": "(self)",
        "without": "(self, *places, right=None, left=None)",
        "ways": "(self)",
        "copy": "(self)",
    },
    live.Guide: {
        "__init__": "(self, way)",
    },
    console.Console: {
        "__init__": "(self)",
        "run": "(self, command)",
    },
}

PROPERTIES = {
    ways.Way: ["rights", "lefts", "places", "table"],
    plans.Plan: ["way", "cells", "rank_sum"],
    crossings.Crossing: ["way", "spots", "cells", "is_over"],
    crossings.LoggedCrossing: ["log"],
    live.LiveWay: ["way", "log", "is_passable"],
    live.Guide: ["course", "moves"],
}

GENERATORS = [
    ways.conditions, plans.Plan.shifts, plans.Plan.path_to, crossings.steps, listing.plans, orders.orders,
    live.LiveWay.ways,
]

FUNCTIONS = {
    ways: {"conditions": "(way)"},
    plans: {"has_plan": "(way)", "chain_of": "(way)", "check_chain": "(way, chain)"},
    crossings: {"steps": "(plan, *, order=None)", "check_order": "(way, order)"},
    listing: {
        "plans": "(way)",
        "count_plans": "(way)",
        "plan_by_rank": "(way, rank)",
        "rank_of": "(plan)",
    },
    orders: {
        "count_orders": "(way)",
        "order_by_rank": "(way, rank)",
        "rank_of_order": "(way, order)",
        "orders": "(way, *, start=0)",
    },
    costs: {
        "cost_of": "(plan, costs)",
        "cheapest_plan": "(way, costs)",
        "bound_by": "(way, costs, weights)",
        "check_cheapest": "(way, costs, answer)",
    },
    texts: {"way_text": "(way)", "read_way": "(text)"},
}


class PackageTest(Case):
    def test_imports_only_the_package(self):
        for file in FILES:
            for node in ast.walk(ast.parse(file.read_text())):
                self.assertNotIsInstance(node, ast.Import, file)
                if isinstance(node, ast.ImportFrom):
                    self.assertEqual(node.level, 0, file)
                    self.assertEqual(node.module.split(".")[0], "passplaces", file)

    def test_uses_nothing_from_outside(self):
        for file in FILES:
            names = {node.id for node in ast.walk(ast.parse(file.read_text())) if isinstance(node, ast.Name)}
            self.assertEqual(names & BARRED, set(), file)

    def test_interface_of_classes(self):
        for owner, methods in INTERFACE.items():
            for name, signature in methods.items():
                self.assertIn(name, vars(owner), owner)
                found = inspect.signature(getattr(owner, name))
                self.assertEqual(str(found), signature, (owner, name))

    def test_interface_of_functions(self):
        for module, functions in FUNCTIONS.items():
            for name, signature in functions.items():
                function = getattr(module, name)
                self.assertEqual(function.__module__, module.__name__)
                self.assertEqual(str(inspect.signature(function)), signature, name)

    def test_kinds_of_methods(self):
        for owner, name in [(ways.Way, "is_size"), (plans.Plan, "is_plan")]:
            self.assertIsInstance(vars(owner)[name], staticmethod)
        for owner, name in [(ways.Way, "square"), (plans.Plan, "leftmost"), (plans.Plan, "rightmost")]:
            self.assertIsInstance(vars(owner)[name], classmethod)
        for owner, names in PROPERTIES.items():
            for name in names:
                self.assertIsInstance(vars(owner)[name], property, (owner, name))
        for function in GENERATORS:
            self.assertTrue(inspect.isgeneratorfunction(function), function)

    def test_classes_are_defined_where_they_are_listed(self):
        self.assertEqual(ways.Way.__module__, "passplaces.ways")
        self.assertEqual(plans.Plan.__module__, "passplaces.plans")
        self.assertEqual(crossings.Crossing.__module__, "passplaces.crossings")
        self.assertEqual(crossings.LoggedCrossing.__module__, "passplaces.crossings")
        self.assertEqual(live.LiveWay.__module__, "passplaces.live")
        self.assertEqual(live.Guide.__module__, "passplaces.live")
        self.assertEqual(console.Console.__module__, "passplaces.console")
        self.assertEqual(errors.PassplacesError.__module__, "passplaces.errors")

    def test_sizes_of_files_and_functions(self):
        for file in FILES:
            lines = file.read_text(encoding="ascii").split("\n")
            self.assertLessEqual(len(lines), 399, file)
            self.assertLessEqual(max(len(line) for line in lines), 120, file)
            for node in ast.walk(ast.parse("\n".join(lines))):
                if isinstance(node, ast.FunctionDef):
                    self.assertLessEqual(node.end_lineno - node.lineno + 1, 40, (file, node.name))

    def test_no_tests_in_the_package(self):
        for path in FOLDER.rglob("*"):
            if "__pycache__" not in path.parts:
                self.assertEqual(path.suffix, ".py", path)
                self.assertFalse(path.name.startswith("test"), path)

"""The names and arguments of the interface, and the file in which each is defined."""

import importlib
import inspect
import unittest

INTERFACE = {
    "schemes": {
        "is_scheme": ["thing"],
        "rollups": ["scheme"],
        "cells": ["scheme", "rollup"],
        "size": ["scheme", "rollup"],
        "is_fine": ["scheme", "one", "other"],
        "finer": ["scheme", "one", "other"],
        "coarser": ["scheme", "one", "other"],
        "above": ["scheme", "rollup", "cell", "other"],
    },
    "tables": {
        "is_table": ["scheme", "thing"],
        "sums": ["scheme", "table", "rollup"],
        "rolled": ["scheme", "rollup", "amounts", "other"],
    },
    "answers": {
        "answer": ["scheme", "stored", "wanted"],
        "shows_answer": ["scheme", "stored", "wanted", "thing"],
        "own_cell": ["scheme", "rollup", "cell"],
        "answer_cell": ["scheme", "stored", "wanted", "cell"],
        "shows_answer_cell": ["scheme", "stored", "wanted", "cell", "thing"],
    },
    "plans": {
        "needed": ["scheme", "wanted"],
        "cost": ["scheme", "stored", "wanted"],
        "best": ["scheme", "stored", "wanted", "many"],
    },
    "reports": {
        "clash": ["scheme", "report"],
        "fill": ["scheme", "report"],
        "shows_fill": ["scheme", "report", "thing"],
    },
    "texts": {
        "scheme_text": ["scheme"],
        "read_scheme": ["text"],
        "report_text": ["scheme", "report"],
        "read_report": ["scheme", "text"],
    },
}

# The bases of each class, how it is called, its properties, its methods with their arguments, and its signs.
CLASSES = {
    "cubes": {
        "Cube": (
            [], "(scheme, table=None)", ["scheme", "table", "total", "changes"],
            {
                "assign_table": "(self, table)", "put": "(self, cell, amount)", "__call__": "(self, cell, amount)",
                "single": "(scheme, cell, amount)", "summed": "(cubes)", "undo": "(self)", "trying": "(self)",
            },
            ["__getitem__", "__add__", "__sub__", "__mul__", "__contains__", "__len__", "__eq__", "__repr__"],
        ),
    },
    "stores": {
        "Store": (
            [], "(scheme, *stored)", ["scheme", "stored", "report", "changes"],
            {
                "put": "(self, cell, amount)", "__call__": "(self, rollup)", "keep": "(self, rollup)",
                "drop": "(self, place)", "undo": "(self)", "trying": "(self)",
            },
            ["__getitem__", "__len__", "__contains__", "__repr__"],
        ),
        "Lean": (["Store"], "(scheme, *stored)", [], {"keep": "(self, rollup)"}, []),
        "Frugal": (["Store"], "(scheme, *stored, most=60)", ["most"], {"keep": "(self, rollup)"}, []),
        "LeanFrugal": (["Lean", "Frugal"], "(scheme, *stored, most=60)", [], {}, []),
    },
}


class InterfaceTest(unittest.TestCase):

    def test_functions(self):
        for file, functions in INTERFACE.items():
            module = importlib.import_module(f"rolluplevels.{file}")
            for name, arguments in functions.items():
                with self.subTest(name):
                    function = getattr(module, name)
                    self.assertEqual(function.__module__, module.__name__)
                    parameters = inspect.signature(function).parameters.values()
                    self.assertEqual([parameter.name for parameter in parameters], arguments)
                    for parameter in parameters:
                        self.assertIs(parameter.default, inspect.Parameter.empty)
                        self.assertIs(parameter.kind, inspect.Parameter.POSITIONAL_OR_KEYWORD)

    def each_class(self):
        for file, classes in CLASSES.items():
            module = importlib.import_module(f"rolluplevels.{file}")
            for name in classes:
                with self.subTest(name):
                    yield module, getattr(module, name), *classes[name]

    def test_classes(self):
        for module, kind, bases, called, properties, methods, signs in self.each_class():
            self.assertEqual(kind.__module__, module.__name__)
            self.assertEqual([base.__name__ for base in kind.__bases__], bases or ["object"])
            self.assertEqual(str(inspect.signature(kind)), called)

    def test_what_stands_in_the_class_itself(self):
        for module, kind, bases, called, properties, methods, signs in self.each_class():
            for name in properties:
                self.assertIsInstance(vars(kind)[name], property)
            for name in signs:
                self.assertTrue(callable(vars(kind)[name]))
            for name, arguments in methods.items():
                self.assertIn(name, vars(kind))
                self.assertEqual(str(inspect.signature(getattr(kind, name))), arguments)

    def test_kinds_of_methods(self):
        cube = vars(importlib.import_module("rolluplevels.cubes").Cube)
        self.assertIsInstance(cube["single"], classmethod)
        self.assertIsInstance(cube["summed"], staticmethod)
        self.assertIsNotNone(cube["table"].fset)


if __name__ == "__main__":
    unittest.main()

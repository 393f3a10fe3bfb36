"""The names and arguments of the interface, and the file in which each is defined."""

import importlib
import inspect
import unittest

INTERFACE = {
    "schemes": {
        "is_scheme": ["thing"],
        "rollups": ["scheme"],
        "cells": ["scheme", "rollup"],
        "size": ["scheme", "rollup"],
        "is_fine": ["scheme", "one", "other"],
        "finer": ["scheme", "one", "other"],
        "coarser": ["scheme", "one", "other"],
        "above": ["scheme", "rollup", "cell", "other"],
    },
    "tables": {
        "is_table": ["scheme", "thing"],
        "sums": ["scheme", "table", "rollup"],
        "rolled": ["scheme", "rollup", "amounts", "other"],
    },
    "answers": {
        "answer": ["scheme", "stored", "wanted"],
        "shows_answer": ["scheme", "stored", "wanted", "thing"],
        "own_cell": ["scheme", "rollup", "cell"],
        "answer_cell": ["scheme", "stored", "wanted", "cell"],
        "shows_answer_cell": ["scheme", "stored", "wanted", "cell", "thing"],
    },
    "plans": {
        "needed": ["scheme", "wanted"],
        "cost": ["scheme", "stored", "wanted"],
        "best": ["scheme", "stored", "wanted", "many"],
    },
    "reports": {
        "clash": ["scheme", "report"],
        "fill": ["scheme", "report"],
        "shows_fill": ["scheme", "report", "thing"],
    },
}


class InterfaceTest(unittest.TestCase):

    def test_functions(self):
        for file, functions in INTERFACE.items():
            module = importlib.import_module(f"rolluplevels.{file}")
            for name, arguments in functions.items():
                with self.subTest(name):
                    function = getattr(module, name)
                    self.assertEqual(function.__module__, module.__name__)
                    parameters = inspect.signature(function).parameters.values()
                    self.assertEqual([parameter.name for parameter in parameters], arguments)
                    for parameter in parameters:
                        self.assertIs(parameter.default, inspect.Parameter.empty)
                        self.assertIs(parameter.kind, inspect.Parameter.POSITIONAL_OR_KEYWORD)


if __name__ == "__main__":
    unittest.main()

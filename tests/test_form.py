"""The form of the package's files, where it is easily lost: rule L28 of the language for `__init__`."""

import ast
import importlib
import os
import unittest

FOLDER = os.path.dirname(importlib.import_module("shearyard").__file__)


def returns_in_inits(text):
    """The lines of this file in which an `__init__`, or a function nested in one, returns."""
    inits = [node for node in ast.walk(ast.parse(text)) if getattr(node, "name", None) == "__init__"]
    return sorted({node.lineno for init in inits for node in ast.walk(init) if isinstance(node, ast.Return)})


class Form(unittest.TestCase):
    def test_no_init_returns_and_no_function_in_it(self):
        names = sorted([name for name in os.listdir(FOLDER) if name.endswith(".py")])
        self.assertIn("cards.py", names)
        for name in names:
            with self.subTest(name), open(os.path.join(FOLDER, name), encoding="utf-8") as file:
                self.assertEqual(returns_in_inits(file.read()), [])

    def test_returns_are_found(self):
        rows = "class C:\n def __init__(self):\n  {}\n def n(self):\n  return 1\n"
        self.assertEqual(returns_in_inits(rows.format("pass")), [])
        self.assertEqual(returns_in_inits(rows.format("return")), [3])
        self.assertEqual(returns_in_inits(rows.format("return None")), [3])
        self.assertEqual(returns_in_inits(rows.format("def f():\n   return 2\n  f()")), [4])

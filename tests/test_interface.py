"""The interface: every name in its file, with its parameters."""

import ast
import importlib
import inspect
import os
import unittest

PACKAGE = os.path.join(os.path.dirname(os.path.dirname(os.path.abspath(__file__))), "wheneverclear")

ERRORS = (
    "NightError BadBook NoKind NoHour Last BadName There BadWorth BadHours TooMany BadWeather BadWishes BadLooks "
    "NotUp BadKinds BadClear BadChooser BadNumber TooLong BadPlan Same Over NothingToUndo BadRest NothingToRedo "
    "NoTrial BadJournal BadWords"
)

FUNCTIONS = {
    "books": {
        "worth": "book kind", "hours_of": "book kind", "up": "book hour", "later": "book kind hour",
        "without": "book kind",
        "with_kind": "book name amount hours",
    },
    "nights": {
        "fits": "book weather wishes looks", "worth_of": "book wishes looks", "open_at": "book wishes looks hour",
        "is_lesser": "book weather other", "cut": "book weather hour",
    },
}


def defined(module, kind):
    """What stands at the top of a module's file, by name."""
    with open(os.path.join(PACKAGE, module + ".py"), encoding="utf-8") as file:
        return {node.name: node for node in ast.parse(file.read()).body if isinstance(node, kind)}


class InterfaceTest(unittest.TestCase):
    def test_functions_are_defined_in_their_files(self):
        for module, functions in FUNCTIONS.items():
            found = defined(module, ast.FunctionDef)
            for name, parameters in functions.items():
                with self.subTest(module=module, name=name):
                    self.assertIn(name, found)
                    function = getattr(importlib.import_module("wheneverclear." + module), name)
                    told = inspect.signature(function).parameters.values()
                    self.assertEqual([one.name for one in told], parameters.split(" "))
                    self.assertEqual({one.kind for one in told}, {inspect.Parameter.POSITIONAL_OR_KEYWORD})
                    self.assertEqual({one.default for one in told}, {inspect.Parameter.empty})

    def test_errors_are_defined_in_their_file(self):
        self.assertEqual(list(defined("errors", ast.ClassDef)), ERRORS.split(" "))

    def test_books_have_their_methods_themselves(self):
        book = defined("books", ast.ClassDef)["Book"]
        methods = [node for node in book.body if isinstance(node, ast.FunctionDef)]
        methods = {node.name: [one.arg for one in node.args.args] for node in methods}
        self.assertEqual(methods["__init__"], ["self", "text"])
        self.assertEqual(methods["__len__"], ["self"])
        self.assertEqual(methods["__eq__"], ["self", "other"])


if __name__ == "__main__":
    unittest.main()

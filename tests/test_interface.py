"""The interface: every name in its file, with its parameters."""

import ast
import importlib
import inspect
import os
import unittest

from wheneverclear.books import Book
from wheneverclear.choosers import Chooser

PACKAGE = os.path.join(os.path.dirname(os.path.dirname(os.path.abspath(__file__))), "wheneverclear")

ERRORS = (
    "NightError BadBook NoKind NoHour Last BadName There BadWorth BadHours TooMany BadWeather BadWishes BadLooks "
    "NotUp BadKinds BadClear BadChooser BadNumber TooLong BadPlan Same Over NothingToUndo BadRest NothingToRedo "
    "NoTrial BadJournal BadWords"
)

FUNCTIONS = {
    "books": {
        "worth": "book kind", "hours_of": "book kind", "up": "book hour", "later": "book kind hour",
        "without": "book kind",
        "with_kind": "book name amount hours",
    },
    "nights": {
        "fits": "book weather wishes looks", "worth_of": "book wishes looks", "open_at": "book wishes looks hour",
        "is_lesser": "book weather other", "cut": "book weather hour",
    },
    "quarrels": {
        "is_ahead": "book one other hour", "quarrels": "book", "agrees": "book", "shows_agrees": "book value",
    },
    "rule": {
        "chosen": "book hour kinds clear", "night": "book weather wishes", "worth_had": "book weather wishes",
    },
    "best": {
        "best": "book weather wishes", "best_worth": "book weather wishes", "counts": "book weather wishes",
        "shows_best": "book weather wishes value",
    },
    "choosers": {
        "led": "chooser weather wishes", "beaten": "chooser", "shows_beaten": "chooser value",
    },
}

CLASSES = {
    ("books", "Book"): {"__init__": "self text", "__eq__": "self other", "__len__": "self"},
    ("choosers", "Chooser"): {"__init__": "self book text", "__eq__": "self other"},
}


def defined(module, kind):
    """What stands at the top of a module's file, by name."""
    with open(os.path.join(PACKAGE, module + ".py"), encoding="utf-8") as file:
        return {node.name: node for node in ast.parse(file.read()).body if isinstance(node, kind)}


class InterfaceTest(unittest.TestCase):
    def test_functions_are_defined_in_their_files(self):
        for module, functions in FUNCTIONS.items():
            found = defined(module, ast.FunctionDef)
            for name, parameters in functions.items():
                with self.subTest(module=module, name=name):
                    self.assertIn(name, found)
                    function = getattr(importlib.import_module("wheneverclear." + module), name)
                    told = inspect.signature(function).parameters.values()
                    self.assertEqual([one.name for one in told], parameters.split(" "))
                    self.assertEqual({one.kind for one in told}, {inspect.Parameter.POSITIONAL_OR_KEYWORD})
                    self.assertEqual({one.default for one in told}, {inspect.Parameter.empty})

    def test_errors_are_defined_in_their_file(self):
        self.assertEqual(list(defined("errors", ast.ClassDef)), ERRORS.split(" "))

    def test_classes_have_their_methods_themselves(self):
        for (module, name), told in CLASSES.items():
            with self.subTest(module=module, name=name):
                body = defined(module, ast.ClassDef)[name].body
                methods = [node for node in body if isinstance(node, ast.FunctionDef)]
                methods = {node.name: " ".join(one.arg for one in node.args.args) for node in methods}
                self.assertEqual(methods, told)

    def test_classes_have_their_attributes(self):
        book = Book("book 2 1\nkind a 1 0-1")
        chooser = Chooser(book, "chooser\nhour 0 a\nhour 1 a")
        for made, names in ((book, "text hours telescopes names"), (chooser, "book text rows")):
            for name in names.split(" "):
                self.assertIn(name, vars(made))


if __name__ == "__main__":
    unittest.main()

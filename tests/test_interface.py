"""The interface: every name in its file, with its parameters."""

import ast
import importlib
import inspect
import os
import unittest

from wheneverclear.bench import Bench
from wheneverclear.books import Book
from wheneverclear.choosers import Chooser
from wheneverclear.desk import Desk
from wheneverclear.observatory import Night

PACKAGE = os.path.join(os.path.dirname(os.path.dirname(os.path.abspath(__file__))), "wheneverclear")

ERRORS = (
    "NightError BadBook NoKind NoHour Last BadName There BadWorth BadHours TooMany BadWeather BadWishes BadLooks "
    "NotUp BadKinds BadClear BadChooser BadNumber TooLong BadPlan Same Over NothingToUndo BadRest NothingToRedo "
    "NoTrial BadJournal BadWords"
)

FUNCTIONS = {
    "books": {
        "worth": "book kind", "hours_of": "book kind", "up": "book hour", "later": "book kind hour",
        "without": "book kind",
        "with_kind": "book name amount hours",
    },
    "nights": {
        "fits": "book weather wishes looks", "worth_of": "book wishes looks", "open_at": "book wishes looks hour",
        "is_lesser": "book weather other", "cut": "book weather hour",
    },
    "quarrels": {
        "is_ahead": "book one other hour", "quarrels": "book", "agrees": "book", "shows_agrees": "book value",
    },
    "rule": {
        "chosen": "book hour kinds clear", "night": "book weather wishes", "worth_had": "book weather wishes",
    },
    "best": {
        "best": "book weather wishes", "best_worth": "book weather wishes", "counts": "book weather wishes",
        "shows_best": "book weather wishes value",
    },
    "choosers": {
        "led": "chooser weather wishes", "beaten": "chooser", "shows_beaten": "chooser value",
    },
    "enough": {
        "enough": "book wishes hour", "why_enough": "book wishes hour", "shows_why_enough": "book wishes hour value",
        "doable": "book wishes hour hours", "surely": "book wishes hour clear", "worst": "book wishes hour clear",
        "shows_worst": "book wishes hour clear value",
    },
    "games": {
        "loss": "book kinds", "plan_of": "book kinds", "shows_plan": "book kinds value", "storm_of": "book kinds",
        "shows_storm": "book kinds value", "lost_by": "book kinds plan",
    },
    "parts": {
        "is_part": "book kinds", "parts": "book", "fewest_left": "book", "shows_fewest_left": "book value",
        "heals": "book kind", "bars": "book one other", "alike": "book one other",
    },
    "journals": {
        "journal": "bench", "read_journal": "text",
    },
}

CLASSES = {
    ("books", "Book"): {"__init__": "self text", "__eq__": "self other", "__len__": "self"},
    ("choosers", "Chooser"): {"__init__": "self book text", "__eq__": "self other"},
    ("observatory", "Night"): {
        "__init__": "self book", "wish": "self kind", "hour": "self clear", "undo": "self", "lost": "self",
        "at_least": "self rest", "copy": "self",
    },
    ("bench", "Bench"): {
        "__init__": "self text", "__eq__": "self other", "add": "self name amount hours", "cut": "self kind",
        "price": "self kind amount", "undo": "self", "redo": "self", "trial": "self", "keep": "self",
        "tried": "self look", "copy": "self",
    },
    ("desk", "Desk"): {"__init__": "self text", "say": "self line"},
}


def defined(module, kind):
    """What stands at the top of a module's file, by name."""
    with open(os.path.join(PACKAGE, module + ".py"), encoding="utf-8") as file:
        return {node.name: node for node in ast.parse(file.read()).body if isinstance(node, kind)}


class InterfaceTest(unittest.TestCase):
    def test_functions_are_defined_in_their_files(self):
        for module, functions in FUNCTIONS.items():
            found = defined(module, ast.FunctionDef)
            for name, parameters in functions.items():
                with self.subTest(module=module, name=name):
                    self.assertIn(name, found)
                    function = getattr(importlib.import_module("wheneverclear." + module), name)
                    told = inspect.signature(function).parameters.values()
                    self.assertEqual([one.name for one in told], parameters.split(" "))
                    self.assertEqual({one.kind for one in told}, {inspect.Parameter.POSITIONAL_OR_KEYWORD})
                    self.assertEqual({one.default for one in told}, {inspect.Parameter.empty})

    def test_errors_are_defined_in_their_file(self):
        self.assertEqual(list(defined("errors", ast.ClassDef)), ERRORS.split(" "))

    def test_classes_have_their_methods_themselves(self):
        for (module, name), told in CLASSES.items():
            with self.subTest(module=module, name=name):
                body = defined(module, ast.ClassDef)[name].body
                methods = [node for node in body if isinstance(node, ast.FunctionDef)]
                methods = {node.name: " ".join(one.arg for one in node.args.args) for node in methods}
                # Methods of the program's own, which the document does not list, begin with one underscore.
                methods = {one: methods[one] for one in methods if one.startswith("__") or not one.startswith("_")}
                self.assertEqual(methods, told)

    def test_keep_stands_behind_a_star(self):
        keep = inspect.signature(Bench.tried).parameters["keep"]
        self.assertEqual([keep.kind, keep.default], [inspect.Parameter.KEYWORD_ONLY, False])

    def test_classes_have_their_attributes(self):
        book = Book("book 2 1\nkind a 1 0-1")
        for made, names in (
            (book, "text hours telescopes names"), (Chooser(book, "chooser\nhour 0 a\nhour 1 a"), "book text rows"),
            (Night(book), "book now wishes weather looks worth"), (Bench(book.text), "book done verdict"),
            (Desk("bench\n" + book.text), "bench"),
        ):
            for name in names.split(" "):
                self.assertIn(name, vars(made))

    def test_no_file_is_more_than_the_document_lists_but_for_what_is_shared(self):
        files = {name.removesuffix(".py") for name in os.listdir(PACKAGE) if name.endswith(".py")}
        listed = {*FUNCTIONS, *(module for module, _ in CLASSES), "errors"}
        self.assertEqual(files - listed, {"__init__", "words"})
        self.assertEqual(listed - files, set())


if __name__ == "__main__":
    unittest.main()

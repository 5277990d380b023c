"""The interface: each name, where it is defined, and with which arguments."""

import ast
import inspect
import os
import unittest

from rangebook import asking, course, deeds, errors, notes, rows

KINDS = ["NoRow", "OutOfRow", "Nothing", "TooMany", "NoDeed"]


def defined(module):
    """The names of the functions and classes that stand in a module's own file."""
    with open(module.__file__, encoding="utf-8") as file:
        body = ast.parse(file.read()).body
    return [part.name for part in body if isinstance(part, (ast.FunctionDef, ast.ClassDef))]


class ErrorClasses(unittest.TestCase):
    def test_stand_in_their_file(self):
        for name in ["BookError"] + KINDS:
            self.assertIn(name, defined(errors))

    def test_book_error_is_a_value_error(self):
        self.assertEqual(errors.BookError.__bases__, (ValueError,))

    def test_each_kind_stands_under_book_error_alone(self):
        for name in KINDS:
            kind = getattr(errors, name)
            self.assertEqual(kind.__bases__, (errors.BookError,))
            self.assertTrue(issubclass(kind, ValueError))

    def test_no_kind_stands_under_another(self):
        for name in KINDS:
            for other in KINDS:
                below = issubclass(getattr(errors, name), getattr(errors, other))
                self.assertEqual(below, name == other, (name, other))

    def test_take_a_message(self):
        for name in ["BookError"] + KINDS:
            self.assertEqual(str(getattr(errors, name)("why")), "why")


class Functions(unittest.TestCase):
    def check(self, module, name, arguments):
        self.assertIn(name, defined(module))
        self.assertEqual(list(inspect.signature(getattr(module, name)).parameters), arguments)

    def test_rows(self):
        self.check(rows, "made", ["numbers"])
        self.check(rows, "even", ["many", "number"])
        self.check(rows, "length", ["book"])
        self.check(rows, "listed", ["book", "low", "high"])

    def test_asking(self):
        self.check(asking, "total", ["book", "low", "high"])
        self.check(asking, "least", ["book", "low", "high"])
        self.check(asking, "place", ["book", "low", "high"])
        self.check(asking, "first", ["book", "low", "bound"])

    def test_deeds(self):
        self.check(deeds, "added", ["book", "low", "high", "by"])
        self.check(deeds, "filled", ["book", "low", "high", "number"])

    def test_notes(self):
        self.check(notes, "shown", ["deed"])
        self.check(notes, "read", ["line"])

    def test_course(self):
        self.check(course, "answers", ["book", "deeds"])


class Package(unittest.TestCase):
    def test_holds_nothing_but_python_files(self):
        folder = os.path.dirname(errors.__file__)
        for name in os.listdir(folder):
            self.assertTrue(name.endswith(".py") or name == "__pycache__", name)

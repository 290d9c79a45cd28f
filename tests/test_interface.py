"""The names of the interface: where they are defined, with which arguments, and which methods each class has itself."""

import importlib
import inspect
import unittest

FUNCTIONS = {
    "countalike.questions": {"ways": "question, table"},
    "countalike.alike": {
        "renamings": "one, other", "alike": "one, other", "shows_alike": "one, other, thing", "normal": "question",
    },
    "countalike.coverings": {
        "coverings": "one, other", "covers": "one, other", "shows_covering": "one, other, thing",
    },
}
BOOK_METHODS = {
    "assign_table": "self, table", "put": "self, kind, left, right, often",
    "__call__": "self, kind, left, right, often", "watch": "self, question", "undo": "self", "trying": "self",
    "__len__": "self", "__repr__": "self",
}
BOOK_PROPERTIES = ("table", "questions", "counts", "changes")
CLASSES = {
    ("countalike.tables", "Table"): ("self, *rows", {
        "__len__": "self", "__getitem__": None, "__add__": "self, other", "__or__": "self, other",
        "__mul__": "self, other", "scaled": "self, k", "text": "self", "read": "text", "__eq__": "self, other",
        "__repr__": "self",
    }, ("rows",)),
    ("countalike.questions", "Question"): ("self, *atoms", {
        "__len__": "self", "__add__": "self, other", "__or__": "self, other", "turned": "self",
        "__call__": "self, table", "text": "self", "read": "text", "__eq__": "self, other", "__repr__": "self",
    }, ("atoms", "variables", "hangs")),
    ("countalike.books", "Book"): ("self, table", BOOK_METHODS, BOOK_PROPERTIES),
    ("countalike.books", "Mirrored"): ("self, table", BOOK_METHODS, BOOK_PROPERTIES),
    ("countalike.books", "Capped"): ("self, table, most=9", BOOK_METHODS, (*BOOK_PROPERTIES, "most")),
    ("countalike.books", "CappedMirror"): ("self, table, most=9", BOOK_METHODS, (*BOOK_PROPERTIES, "most")),
}


def parameters(function):
    return str(inspect.signature(function)).strip("()")


class Interface(unittest.TestCase):
    def test_functions(self):
        for module, functions in FUNCTIONS.items():
            for name, expected in functions.items():
                function = getattr(importlib.import_module(module), name)
                self.assertTrue(inspect.isfunction(function))
                self.assertEqual((function.__module__, parameters(function)), (module, expected), name)

    def test_generators(self):
        for module, name in (("questions", "ways"), ("alike", "renamings"), ("coverings", "coverings")):
            function = getattr(importlib.import_module("countalike." + module), name)
            self.assertTrue(inspect.isgeneratorfunction(function))

    def test_classes(self):
        for (module, name), (expected, methods, properties) in CLASSES.items():
            made = getattr(importlib.import_module(module), name)
            self.assertEqual(made.__module__, module)
            self.assertEqual(parameters(made.__init__), expected, name)
            self.assertIn("__init__", vars(made))
            for method, arguments in methods.items():
                self.assertIn(method, vars(made), name)
                if arguments is not None:
                    self.assertEqual(parameters(getattr(made, method)), arguments, (name, method))
            for attribute in properties:
                self.assertIsInstance(vars(made)[attribute], property, (name, attribute))

    def test_only_the_table_of_a_book_is_assigned(self):
        for (module, name), (expected, methods, properties) in CLASSES.items():
            made = getattr(importlib.import_module(module), name)
            for attribute in properties:
                self.assertIs(vars(made)[attribute].fset is not None, attribute == "table", (name, attribute))


if __name__ == "__main__":
    unittest.main()

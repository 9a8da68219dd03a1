"""Names that are a method in one class and an attribute in another: where such a method may be called."""

import ast
import pathlib
import unittest

PACKAGE = pathlib.Path(__file__).resolve().parent.parent / "quorumdrift"
WIDE_ERRORS = {"ValueError", "LookupError", "IndexError"}


def trees():
    """The syntax tree of each file of the package."""
    return {path.name: ast.parse(path.read_text()) for path in sorted(PACKAGE.glob("*.py"))}


def methods_in(tree):
    """The methods of all classes of a file."""
    classes = [node for node in ast.walk(tree) if isinstance(node, ast.ClassDef)]
    return [node for one in classes for node in one.body if isinstance(node, ast.FunctionDef)]


def attributes_in(tree):
    """The names of the attributes that a file assigns."""
    nodes = [node for node in ast.walk(tree) if isinstance(node, ast.Attribute)]
    return {node.attr for node in nodes if isinstance(node.ctx, ast.Store)}


def decorators_of(method):
    """The names of the decorators over a method."""
    return [node.attr if isinstance(node, ast.Attribute) else node.id for node in method.decorator_list]


def calls_in(node):
    """The names of the methods that are called somewhere in a part of a file."""
    calls = [call for call in ast.walk(node) if isinstance(call, ast.Call)]
    return {call.func.attr for call in calls if isinstance(call.func, ast.Attribute)}


def is_operator(method):
    """Whether it is a double-underscore method other than __init__, or a property."""
    if method.name.startswith("__"):
        return method.name != "__init__"
    return bool({"property", "setter"} & set(decorators_of(method)))


class NamesTest(unittest.TestCase):
    def setUp(self):
        self.trees = trees()
        methods = [method for tree in self.trees.values() for method in methods_in(tree)]
        properties = {method.name for method in methods if "property" in decorators_of(method)}
        attributes = {name for tree in self.trees.values() for name in attributes_in(tree)}
        self.both = ({method.name for method in methods} - properties) & attributes

    def test_the_names_that_are_both(self):
        self.assertEqual(self.both, {"side"})

    def test_not_called_in_operators_and_properties(self):
        for name, tree in self.trees.items():
            for method in methods_in(tree):
                if is_operator(method):
                    with self.subTest(file=name, method=method.name, row=method.lineno):
                        self.assertEqual(calls_in(method) & self.both, set())

    def test_not_called_where_wide_errors_are_caught(self):
        for name, tree in self.trees.items():
            for node in [node for node in ast.walk(tree) if isinstance(node, ast.Try)]:
                caught = {part.id for handler in node.handlers for part in ast.walk(handler.type) if hasattr(part, "id")}
                if caught & WIDE_ERRORS:
                    with self.subTest(file=name, row=node.lineno):
                        self.assertEqual(calls_in(node) & self.both, set())

    def test_such_methods_are_plain(self):
        for name, tree in self.trees.items():
            for method in methods_in(tree):
                if method.name in self.both:
                    with self.subTest(file=name, method=method.name):
                        self.assertEqual(decorators_of(method), [])
                        self.assertFalse(any(isinstance(node, ast.Yield) for node in ast.walk(method)))


if __name__ == "__main__":
    unittest.main()

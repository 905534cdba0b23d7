"""Operators and properties, and all that they call, change only what they created themselves (rule L5)."""

import ast
import unittest

from test_language import files, text_of

CHANGES = ["append", "clear", "extend", "insert", "pop", "remove", "reverse", "setdefault", "update", "add", "discard"]
CHANGING = ["__init__", "__iadd__", "__isub__", "__ior__", "__setitem__", "__call__", "__enter__", "__exit__"]
MAKES = (ast.List, ast.Dict, ast.ListComp, ast.DictComp, ast.Constant)


def is_made(value):
    """Whether a value is plainly a new list, dict or set, or an object of an own class."""
    if isinstance(value, MAKES):
        return True
    if isinstance(value, ast.Subscript):
        return isinstance(value.slice, ast.Slice)
    if isinstance(value, ast.Call) and isinstance(value.func, ast.Name):
        return value.func.id in ("list", "dict", "set", "sorted") or value.func.id[0].isupper()
    return False


def base_of(node):
    """The name at the left end of an item, an attribute or a call of a method."""
    while not isinstance(node, ast.Name):
        node = node.func if isinstance(node, ast.Call) else node.value
    return node.id


def made_here(function):
    """The local names that are only ever assigned what the function creates."""
    found = {}
    for node in ast.walk(function):
        if isinstance(node, ast.Assign):
            for target in node.targets:
                if isinstance(target, ast.Name):
                    found[target.id] = found.get(target.id, True) and is_made(node.value)
    return [name for name in found if found[name]]


def changed_names(function):
    """The names whose items, attributes or lists a function changes."""
    found = []
    for node in ast.walk(function):
        if isinstance(node, (ast.Subscript, ast.Attribute)) and not isinstance(node.ctx, ast.Load):
            found.append(base_of(node))
        if isinstance(node, ast.Call) and isinstance(node.func, ast.Attribute) and node.func.attr in CHANGES:
            found.append(base_of(node.func.value))
    return found


class UnchangedTest(unittest.TestCase):
    def setUp(self):
        self.held, self.roots = {}, []
        for name in files():
            for node in ast.walk(ast.parse(text_of(name))):
                if isinstance(node, ast.FunctionDef):
                    self.held.setdefault(node.name, []).append(node)
                    marks = [getattr(mark, "id", "") for mark in node.decorator_list]
                    if "property" in marks or node.name.startswith("__") and node.name not in CHANGING:
                        self.roots.append(node)
                if isinstance(node, ast.ClassDef):
                    made = [part for part in node.body if getattr(part, "name", "") == "__init__"]
                    self.held.setdefault(node.name, []).extend(made)

    def called(self, function):
        names = [getattr(node.func, "id", getattr(node.func, "attr", "")) for node in ast.walk(function)
                 if isinstance(node, ast.Call)]
        return [found for name in names for found in self.held.get(name, [])]

    def test_all_that_they_call(self):
        waiting, reached = list(self.roots), []
        while waiting:
            function = waiting.pop()
            if function not in reached:
                reached.append(function)
                waiting.extend(self.called(function))
        self.assertGreater(len(reached), 40)
        for function in reached:
            let = made_here(function) + (["self"] if function.name == "__init__" else [])
            self.assertLessEqual(set(changed_names(function)), set(let), function.name)


if __name__ == "__main__":
    unittest.main()

"""Operators and properties, and all that they call, change only what they created themselves (rule L5)."""

import ast
import unittest

from test_language import files, text_of

CHANGES = ["append", "clear", "extend", "insert", "pop", "remove", "reverse", "setdefault", "update", "add", "discard"]
CHANGING = ["__init__", "__iadd__", "__isub__", "__ior__", "__setitem__", "__call__", "__enter__", "__exit__"]
MAKES = (ast.List, ast.Dict, ast.ListComp, ast.DictComp, ast.Constant)


def is_made(value):
    """Whether a value is plainly a new list, dict or set, or an object of an own class."""
    if isinstance(value, MAKES):
        return True
    if isinstance(value, ast.Subscript):
        return isinstance(value.slice, ast.Slice)
    if isinstance(value, ast.Call) and isinstance(value.func, ast.Name):
        return value.func.id in ("list", "dict", "set", "sorted") or value.func.id[0].isupper()
    return False


def base_of(node):
    """The name at the left end of an item, an attribute or a call of a method."""
    while not isinstance(node, ast.Name):
        node = node.func if isinstance(node, ast.Call) else node.value
    return node.id


def made_here(function):
    """The local names that are only ever assigned what the function creates."""
    found = {}
    for node in ast.walk(function):
        if isinstance(node, ast.Assign):
            for target in node.targets:
                if isinstance(target, ast.Name):
                    found[target.id] = found.get(target.id, True) and is_made(node.value)
    return [name for name in found if found[name]]


def changed_names(function):
    """The names whose items, attributes or lists a function changes."""
    found = []
    for node in ast.walk(function):
        if isinstance(node, (ast.Subscript, ast.Attribute)) and not isinstance(node.ctx, ast.Load):
            found.append(base_of(node))
        if isinstance(node, ast.Call) and isinstance(node.func, ast.Attribute) and node.func.attr in CHANGES:
            found.append(base_of(node.func.value))
    return found


def is_kept_answer(function):
    """Whether a property only keeps what it worked out: if it is None it is assigned, and it is returned (rule L5)."""
    rows = function.body[1:]
    if len(rows) != 2 or not isinstance(rows[0], ast.If) or not isinstance(rows[1], ast.Return):
        return False
    marks = [getattr(mark, "id", "") for mark in function.decorator_list]
    name = ast.unparse(rows[1].value)
    return (marks == ["property"] and ast.unparse(rows[0].test) == f"{name} is None" and len(rows[0].body) == 1
            and not rows[0].orelse and ast.unparse(rows[0].body[0].targets[0]) == name)


class UnchangedTest(unittest.TestCase):
    def setUp(self):
        self.held, self.roots = {}, []
        for name in files():
            for node in ast.walk(ast.parse(text_of(name))):
                if isinstance(node, ast.FunctionDef):
                    self.held.setdefault(node.name, []).append(node)
                    marks = [getattr(mark, "id", "") for mark in node.decorator_list]
                    if "property" in marks or node.name.startswith("__") and node.name not in CHANGING:
                        self.roots.append(node)
                if isinstance(node, ast.ClassDef):
                    made = [part for part in node.body if getattr(part, "name", "") == "__init__"]
                    self.held.setdefault(node.name, []).extend(made)

    def called(self, function):
        names = [getattr(node.func, "id", getattr(node.func, "attr", "")) for node in ast.walk(function)
                 if isinstance(node, ast.Call)]
        return [found for name in names for found in self.held.get(name, [])]

    def test_kept_answers_are_read_by_their_property_alone(self):
        kept = [ast.unparse(function.body[-1].value) for functions in self.held.values() for function in functions
                if is_kept_answer(function)]
        self.assertEqual(sorted(kept), ["self._closed", "self._held", "self._near", "self._plain"])
        for name in kept:
            found = [ast.unparse(node) for file in files() for node in ast.walk(ast.parse(text_of(file)))
                     if isinstance(node, ast.Attribute) and node.attr == name.partition(".")[2]]
            self.assertEqual(found, [name] * 4)

    def test_all_that_they_call(self):
        waiting, reached = list(self.roots), []
        while waiting:
            function = waiting.pop()
            if function not in reached:
                reached.append(function)
                waiting.extend(self.called(function))
        self.assertGreater(len(reached), 40)
        for function in reached:
            let = made_here(function) + (["self"] if function.name == "__init__" or is_kept_answer(function) else [])
            self.assertLessEqual(set(changed_names(function)), set(let), function.name)


if __name__ == "__main__":
    unittest.main()

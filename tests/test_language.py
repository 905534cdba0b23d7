"""The rules of the language subset that can be seen in the code by simple means."""

import ast
import builtins
import os
import re
import unittest

FOLDER = os.path.join(os.path.dirname(os.path.dirname(os.path.abspath(__file__))), "outsigns")
BUILTINS = """len range enumerate zip min max sum abs sorted reversed int str bool bytes list tuple dict set isinstance
ord repr any all divmod TypeError ValueError KeyError IndexError LookupError RuntimeError ArithmeticError
NotImplemented property staticmethod classmethod super""".split()
METHODS = """append clear copy count endswith extend find get index insert isalnum isalpha isdigit islower isspace
isupper items join keys ljust lower lstrip partition pop remove replace reverse rfind rjust rpartition rsplit rstrip
setdefault split splitlines startswith strip update upper values zfill bit_length setter isascii""".split()
LIBRARY = {"itertools": ["combinations"], "math": ["comb", "factorial"]}
BARRED = """register mro elements open input law version_info with_traceback add_note type typing enum namedtuple
dataclass overload contextmanager Meta metaclass""".split()
OPERATORS = "__add__ __sub__ __or__ __and__ __contains__ __eq__ __lt__ __le__ __gt__ __ge__ __str__ __repr__ __len__ " \
            "__getitem__ __iter__ __init__ __iadd__ __isub__ __ior__ __setitem__ __call__ __invert__ __rshift__ " \
            "__enter__ __exit__".split()


# A doctest that runs earlier leaves a name `_` there.
PYTHONS_OWN = sorted(name for name in dir(builtins) if name != "_")


def files():
    return sorted(name for name in os.listdir(FOLDER) if name != "__pycache__")


def text_of(name):
    with open(os.path.join(FOLDER, name), encoding="utf-8") as file:
        return file.read()


def functions(tree):
    return [node for node in ast.walk(tree) if isinstance(node, ast.FunctionDef)]


def bound_names(tree):
    """Names that are parameters, variables, functions or classes."""
    found = [node.id for node in ast.walk(tree) if isinstance(node, ast.Name) and not isinstance(node.ctx, ast.Load)]
    found += [node.arg for node in ast.walk(tree) if isinstance(node, ast.arg)]
    return found + [node.name for node in ast.walk(tree) if isinstance(node, (ast.FunctionDef, ast.ClassDef))]


class LanguageTest(unittest.TestCase):
    def each(self):
        return [(name, text_of(name), ast.parse(text_of(name))) for name in files()]

    def test_files(self):
        for name in files():
            self.assertRegex(name, r"^([a-z]+|__init__)\.py$")

    def test_sizes_and_characters(self):
        for _, text, tree in self.each():
            self.assertLessEqual(len(text.splitlines()), 399)
            self.assertLessEqual(max(len(line) for line in text.splitlines()), 120)
            self.assertTrue(all(sign == "\n" or " " <= sign <= "~" for sign in text))
            self.assertNotIn("%", re.sub(r"\) % ", "", text))
            for function in functions(tree):
                self.assertLessEqual(function.end_lineno - function.lineno + 1, 40)

    def test_statements(self):
        barred = (ast.AugAssign, ast.Global, ast.Nonlocal, ast.GeneratorExp, ast.Lambda, ast.Set, ast.SetComp,
                  ast.NamedExpr, ast.AnnAssign, ast.AsyncFunctionDef, ast.Import, ast.Await, ast.Match, ast.With)
        for _, _, tree in self.each():
            for node in ast.walk(tree):
                self.assertNotIsInstance(node, barred)
                if isinstance(node, ast.Constant):
                    self.assertNotIsInstance(node.value, (float, complex))
                if isinstance(node, (ast.Is, ast.IsNot)):
                    continue
                if isinstance(node, ast.Compare) and any(isinstance(sign, (ast.Is, ast.IsNot)) for sign in node.ops):
                    self.assertTrue(all(isinstance(part, ast.Constant) for part in node.comparators))

    def test_handlers_name_own_errors(self):
        own = [node.name for node in ast.parse(text_of("errors.py")).body if isinstance(node, ast.ClassDef)]
        seen = 0
        for _, _, tree in self.each():
            for node in ast.walk(tree):
                if isinstance(node, ast.ExceptHandler):
                    seen += 1
                    named = node.type.elts if isinstance(node.type, ast.Tuple) else [node.type]
                    self.assertLessEqual({part.id for part in named}, set(own))
        self.assertEqual(seen, 2)

    def test_no_files_import_from_each_other(self):
        below = {name: [node.module.partition(".")[2] + ".py" for node in tree.body if isinstance(node, ast.ImportFrom)
                        and node.module.startswith("outsigns.")] for name, _, tree in self.each()}
        left = dict(below)
        while left:
            free = [name for name in left if not any(other in left for other in left[name])]
            self.assertNotEqual(free, [])
            left = {name: others for name, others in left.items() if name not in free}

    def test_module_level(self):
        for _, _, tree in self.each():
            kinds = (ast.ImportFrom, ast.FunctionDef, ast.ClassDef, ast.Assign, ast.Expr)
            seen_other = False
            for node in tree.body:
                self.assertIsInstance(node, kinds)
                if isinstance(node, ast.ImportFrom):
                    self.assertFalse(seen_other)
                seen_other = seen_other or not isinstance(node, (ast.ImportFrom, ast.Expr))

    def test_imports(self):
        for name, _, tree in self.each():
            imported = []
            for node in ast.walk(tree):
                if isinstance(node, ast.ImportFrom):
                    self.assertEqual(node.level, 0)
                    if node.module in LIBRARY:
                        self.assertLessEqual({part.name for part in node.names}, set(LIBRARY[node.module]))
                        continue
                    self.assertTrue(node.module.startswith("outsigns."))
                    below = ast.parse(text_of(node.module.partition(".")[2] + ".py"))
                    defined = [part.name for part in below.body if isinstance(part, (ast.FunctionDef, ast.ClassDef))]
                    for part in node.names:
                        self.assertIn(part.name, defined)
                        self.assertIsNone(part.asname)
                        imported.append(part.name)
            self.assertEqual(len(imported), len(set(imported)))
            used = [node.id for node in ast.walk(tree) if isinstance(node, ast.Name)]
            for word in imported:
                self.assertIn(word, used)
                self.assertNotIn(word, bound_names(tree) if word != "open_net" else [])

    def test_names(self):
        for _, text, tree in self.each():
            for word in bound_names(tree):
                self.assertNotIn(word, PYTHONS_OWN)
                self.assertTrue(word in OPERATORS or re.match(r"^(_|_?[A-Za-z][A-Za-z0-9_]*)$", word), word)
                self.assertNotIn(word, BARRED)
            for word in BARRED:
                if word not in ("open", "input", "law", "elements", "register"):
                    self.assertNotRegex(text, r"\b" + word + r"\b")
            classes = [node.name for node in tree.body if isinstance(node, ast.ClassDef)]
            for function in functions(tree):
                for node in ast.walk(function):
                    if isinstance(node, ast.arg):
                        self.assertNotIn(node.arg, classes)

    def test_calls(self):
        own = set()
        for _, _, tree in self.each():
            own |= set(bound_names(tree))
            own |= {part.name for node in ast.walk(tree) if isinstance(node, ast.ImportFrom) for part in node.names}
        for _, _, tree in self.each():
            for node in ast.walk(tree):
                if isinstance(node, ast.Name) and node.id in PYTHONS_OWN:
                    self.assertIn(node.id, BUILTINS)
                if isinstance(node, ast.Call) and isinstance(node.func, ast.Attribute):
                    self.assertIn(node.func.attr, own | set(METHODS))
                    if getattr(getattr(node.func.value, "func", None), "id", "") != "super":
                        self.assertFalse(node.func.attr.startswith("__"))

    def test_sorted_takes_what_is_plainly_strings(self):
        for _, _, tree in self.each():
            for node in ast.walk(tree):
                if isinstance(node, ast.Call) and getattr(node.func, "id", "") in ("sorted", "min", "max"):
                    self.assertEqual(len(node.args), 1)
                    if node.keywords:
                        self.assertEqual([(part.arg, part.value.id) for part in node.keywords], [("key", "str")])
                        continue
                    self.assertIsInstance(node.args[0], ast.ListComp)
                    plain = node.args[0].elt
                    self.assertTrue(isinstance(plain, ast.JoinedStr) or plain.func.id in ("str", "int"))

    def test_generators_are_iterated_at_once(self):
        generators = []
        for _, _, tree in self.each():
            generators += [part.name for part in functions(tree)
                           if any(isinstance(node, (ast.Yield, ast.YieldFrom)) for node in ast.walk(part))]
        self.assertIn("entries", generators)
        for _, _, tree in self.each():
            at_once = [node.iter for node in ast.walk(tree) if isinstance(node, (ast.For, ast.comprehension))]
            at_once += [node.value for node in ast.walk(tree) if isinstance(node, ast.YieldFrom)]
            at_once += [node.args[0] for node in ast.walk(tree) if isinstance(node, ast.Call) and node.args
                        and getattr(node.func, "id", "") in ("list", "tuple", "dict", "enumerate")]
            for node in ast.walk(tree):
                if isinstance(node, ast.Call):
                    name = getattr(node.func, "id", getattr(node.func, "attr", ""))
                    if name in generators or name in ("enumerate", "zip", "reversed", "items", "values"):
                        self.assertIn(node, at_once)

    def test_reversed_takes_what_is_plainly_a_list(self):
        for _, _, tree in self.each():
            for node in ast.walk(tree):
                if isinstance(node, ast.Call) and getattr(node.func, "id", "") == "reversed":
                    plain = node.args[0]
                    self.assertTrue(isinstance(plain, (ast.List, ast.Tuple)) or getattr(plain.func, "id", "") in
                                    ("list", "tuple", "sorted", "range"))

    def test_attributes_and_methods_have_different_names(self):
        methods, properties, attributes = set(), set(), set()
        for name, _, tree in self.each():
            for held in ast.walk(tree):
                if isinstance(held, ast.ClassDef) and name != "errors.py":
                    for part in held.body:
                        if isinstance(part, ast.FunctionDef):
                            marks = {getattr(mark, "id", "setter") for mark in part.decorator_list}
                            (properties if marks & {"property", "setter"} else methods).add(part.name)
                if isinstance(held, ast.Attribute) and isinstance(held.ctx, ast.Store):
                    attributes.add(held.attr)
        self.assertLess(3, len(properties))
        self.assertEqual(methods & properties, set())
        self.assertEqual(attributes & methods, set())
        self.assertEqual(attributes & properties, set())
        self.assertEqual(attributes & set(METHODS) - {"count"}, set())

    def test_double_underscores(self):
        for _, _, tree in self.each():
            for function in functions(tree):
                if function.name.startswith("__"):
                    self.assertIn(function.name, OPERATORS)
                    if function.name in ("__str__", "__repr__", "__len__"):
                        self.assertIsInstance(function.body[-1], ast.Return)


if __name__ == "__main__":
    unittest.main()

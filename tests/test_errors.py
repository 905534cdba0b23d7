import unittest

from outsigns import errors

LISTED = {
    ("SignError", ValueError): {
        "InvalidName": ["value"], "InvalidLink": ["value"], "InvalidNodes": ["position"],
        "InvalidLinks": ["position"], "InvalidNet": ["value"], "InvalidClosing": ["value"], "InvalidRow": ["node"],
        "InvalidEntry": ["value"], "InvalidSigns": ["value"], "InvalidRows": ["value"], "InvalidCount": ["value"],
        "InvalidNumber": ["value"], "InvalidNeighbours": ["value"], "InvalidFilling": ["value"],
        "InvalidPart": ["name"], "InvalidBundle": ["value"], "InvalidText": ["line"], "InvalidClaim": ["value"],
        "InvalidCommand": ["value"],
    },
    ("MissingError", LookupError): {"UnknownNode": ["value"], "UnknownLink": ["value"], "UnknownName": ["value"]},
    ("StateError", RuntimeError): {
        "LinkTaken": ["value"], "NameTaken": ["name"], "NobodyLeft": [], "OtherNet": ["one", "other"],
        "NoDrawing": [], "NotOneBlock": ["count"], "HasDrawing": [], "NothingToUndo": [],
        "CommandFailed": ["position"],
    },
    ("LimitError", ArithmeticError): {"TooMany": ["what", "limit"]},
}
VALUES = [None, True, 0, -1, 10 ** 29, "", "word", b"x", [], [1], (), ("a", "b"), {}, {"a": 1}, object(), ValueError]


def leaves():
    """The tuples (class, base, builtin, parameters)."""
    return [
        (getattr(errors, name), getattr(errors, base), builtin, params)
        for (base, builtin), kids in LISTED.items() for name, params in kids.items()
    ]


class ErrorsTest(unittest.TestCase):
    def test_all_classes_are_there_and_no_other(self):
        listed = {base for base, _ in LISTED} | {name for kids in LISTED.values() for name in kids}
        found = {name for name, value in vars(errors).items() if isinstance(value, type)}
        self.assertEqual(found, listed)

    def test_classes_above(self):
        for (name, builtin), _ in LISTED.items():
            self.assertEqual(getattr(errors, name).__bases__, (builtin,))
        for made, base, builtin, _ in leaves():
            self.assertEqual(made.__bases__, (base,))
            self.assertEqual(base.__bases__, (builtin,))

    def test_an_error_is_of_no_other_class_of_the_package(self):
        classes = [value for value in vars(errors).values() if isinstance(value, type)]
        for made, base, _, params in leaves():
            error = made(*[1 for _ in params])
            self.assertEqual({kind for kind in classes if isinstance(error, kind)}, {made, base})

    def test_attributes_by_position_and_by_name(self):
        for made, _, _, params in leaves():
            for value in VALUES:
                given = {param: (value, param) if at else value for at, param in enumerate(params)}
                for error in (made(*given.values()), made(**given)):
                    self.assertEqual(vars(error), given)
                    for param in params:
                        self.assertIs(getattr(error, param), given[param])

    def test_number_of_parameters(self):
        for made, _, _, params in leaves():
            if params:
                with self.assertRaises(TypeError):
                    made()
                with self.assertRaises(TypeError):
                    made(*[1 for _ in params], 1)

    def test_can_be_raised_and_caught_by_each_class_above(self):
        for made, base, builtin, params in leaves():
            for kind in (made, base, builtin):
                with self.assertRaises(kind):
                    raise made(*[None for _ in params])


if __name__ == "__main__":
    unittest.main()

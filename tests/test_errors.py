import unittest

from handspaces import errors
from handspaces.errors import HandError

# The error classes of the interface, each with its attribute, if it has one.
LISTED = {
    "BadPrime": "told", "NoInverse": "number", "BadLength": "told", "BadVector": "vector",
    "UnlikeSpaces": None, "NotWithin": None, "BadMatrix": None, "BadText": None, "BadSign": "told",
    "BadColumn": "column", "BadOrder": "order", "NoHand": "hand", "NoKind": "kind", "BadNumbers": None,
    "TooGreat": "told", "Clash": None, "BadMove": "move", "Barred": "spot", "BadLine": "line",
    "NothingToUndo": None, "NothingToRedo": None, "NoSpace": "part", "NoCell": "cell",
}

ANY_VALUES = [
    None, True, False, 0, 1, -1, 10 ** 30, "", "a", "0", [], [1, [2, None]], (), (1, ("a", True)),
    {}, {"a": [1]}, {(1, 2): {None: False}},
]


class ErrorClasses(unittest.TestCase):
    def test_base(self):
        self.assertEqual(HandError.__bases__, (ValueError,))

    def test_each_is_a_direct_subclass(self):
        for name in LISTED:
            with self.subTest(name):
                self.assertEqual(getattr(errors, name).__bases__, (HandError,))

    def test_nothing_else_is_an_error(self):
        found = {name for name, held in vars(errors).items() if isinstance(held, type)}
        self.assertEqual(found, set(LISTED) | {"HandError"})

    def test_values_by_position_and_by_name(self):
        for name, attribute in LISTED.items():
            if attribute is None:
                continue
            made = getattr(errors, name)
            for value in ANY_VALUES:
                with self.subTest(name, value=value):
                    for error in (made(value), made(**{attribute: value})):
                        self.assertEqual(vars(error), {attribute: value})
                        self.assertIs(type(getattr(error, attribute)), type(value))

    def test_no_values(self):
        for name, attribute in LISTED.items():
            if attribute is None:
                with self.subTest(name):
                    self.assertEqual(vars(getattr(errors, name)()), {})

    def test_raised_and_caught(self):
        for name, attribute in LISTED.items():
            with self.subTest(name):
                made = getattr(errors, name)
                with self.assertRaises(HandError) as caught:
                    raise made() if attribute is None else made([1, "a"])
                self.assertIs(type(caught.exception), made)
                self.assertIsInstance(caught.exception, ValueError)


if __name__ == "__main__":
    unittest.main()

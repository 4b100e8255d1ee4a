"""Names, arguments and places of the interface, its examples, and the form of the files."""

import ast
import inspect
import unittest
from pathlib import Path

from handspaces import errors, rests, spaces
from handspaces.errors import BadPrime
from handspaces.rests import inverse
from handspaces.spaces import Space

FOLDER = Path(errors.__file__).parent
LIBRARY = ("heapq", "itertools", "math")

FUNCTIONS = {
    rests: {"is_integer": ["value"], "is_prime": ["value"], "inverse": ["number", "prime"]},
    spaces: {"extension": ["inner", "outer"], "image": ["space", "matrix"]},
}

METHODS = {
    "__init__": ["self", "prime", "length", "vectors"], "nothing": ["prime", "length"], "whole": ["prime", "length"],
    "read": ["text"], "basis": ["self"], "rest": ["self", "vector"], "vectors": ["self"], "text": ["self"],
    "__len__": ["self"], "__eq__": ["self", "other"], "__le__": ["self", "other"], "__add__": ["self", "other"],
    "__and__": ["self", "other"], "__contains__": ["self", "vector"],
}


class Places(unittest.TestCase):
    def test_functions(self):
        for module, names in FUNCTIONS.items():
            for name, parameters in names.items():
                made = getattr(module, name)
                self.assertEqual(made.__module__, module.__name__)
                self.assertEqual(list(inspect.signature(made).parameters), parameters)

    def test_classes(self):
        self.assertEqual(Space.__module__, "handspaces.spaces")
        for made in vars(errors).values():
            if inspect.isclass(made):
                self.assertEqual(made.__module__, "handspaces.errors")

    def test_methods_are_defined_in_the_class_itself(self):
        for name, parameters in METHODS.items():
            self.assertIn(name, vars(Space))
            self.assertEqual(list(inspect.signature(getattr(Space, name)).parameters), parameters)
        for name in ("nothing", "whole", "read"):
            self.assertIsInstance(vars(Space)[name], classmethod)
        for name in ("prime", "length"):
            self.assertIsInstance(vars(Space)[name], property)


class Examples(unittest.TestCase):
    def test_rests(self):
        self.assertEqual(inverse(3, 7), 5)

    def test_spaces(self):
        one = Space(5, 3, [[2, 4, 1], [1, 2, 3]])
        other = Space(5, 3, [(0, 0, 4), (0, 1, 0)])
        self.assertEqual(
            (one.basis(), len(one + other), (one & other) == Space.nothing(5, 3), one.rest([1, 1, 1])),
            ([(1, 2, 3)], 3, True, (0, 4, 3)))
        self.assertEqual(
            (Space.read("3 2; 1 1").text(), [0, 4, 3] in one, list(Space(2, 2, [(1, 1)]).vectors())),
            ("3 2; 1 1", False, [(0, 0), (1, 1)]))
        with self.assertRaises(BadPrime) as caught:
            Space(4, 1)
        self.assertEqual(caught.exception.told, 4)


class Form(unittest.TestCase):
    """Only those rules of the language subset that are quick to check."""

    def files(self):
        return [path for path in FOLDER.rglob("*") if path.is_file() and "__pycache__" not in path.parts]

    def test_folder_holds_only_python_files(self):
        for path in self.files():
            self.assertEqual(path.suffix, ".py", path)
        self.assertTrue((FOLDER / "__init__.py").is_file())

    def test_sizes_and_characters(self):
        for path in self.files():
            lines = path.read_text(encoding="ascii").split("\n")
            self.assertLess(len(lines), 400, path)
            for line in lines:
                self.assertLessEqual(len(line), 120, (path, line))
                self.assertTrue(all(" " <= character <= "~" for character in line), (path, line))

    def test_functions_and_imports(self):
        for path in self.files():
            for node in ast.walk(ast.parse(path.read_text(encoding="ascii"))):
                if isinstance(node, ast.FunctionDef):
                    self.assertLessEqual(node.end_lineno - node.lineno + 1, 40, (path, node.name))
                self.assertNotIsInstance(node, ast.Import, path)
                if isinstance(node, ast.ImportFrom):
                    own = node.module.startswith("handspaces.")
                    self.assertTrue(own or node.module in LIBRARY, (path, node.module))


if __name__ == "__main__":
    unittest.main()

"""Names, arguments and places of the interface, its examples, and the form of the files."""

import ast
import inspect
import unittest
from pathlib import Path

from handspaces import carrying, classes, errors, facts, pieces, rests, sizes, spaces, triples, words
from handspaces.carrying import all_numbers, alike, carry, is_carried, keepers, triple_count
from handspaces.classes import below, breach, marks, parting, plain, same
from handspaces.errors import BadColumn, BadPrime, BadText
from handspaces.facts import Facts
from handspaces.pieces import is_apart, nine_numbers
from handspaces.rests import inverse
from handspaces.sizes import Claim, coefficients, holds, refuting
from handspaces.spaces import Space
from handspaces.triples import Triple, kind_triple, triple_of, value
from handspaces.words import Word

FOLDER = Path(errors.__file__).parent
LIBRARY = ("heapq", "itertools", "math")

FUNCTIONS = {
    rests: {"is_integer": ["value"], "is_prime": ["value"], "inverse": ["number", "prime"]},
    spaces: {"extension": ["inner", "outer"], "image": ["space", "matrix"]},
    triples: {"value": ["word", "triple"], "kind_triple": ["prime", "kind"], "triple_of": ["prime", "numbers"]},
    pieces: {"pieces": ["triple"], "is_apart": ["triple", "pieces"], "nine_numbers": ["triple"]},
    classes: {
        "marks": ["word"], "same": ["one", "other"], "below": ["one", "other"], "parting": ["one", "other"],
        "breach": ["one", "other"], "plain_words": [], "plain": ["word"],
    },
    carrying: {
        "carry": ["one", "other"], "is_carried": ["matrix", "one", "other"], "keepers": ["prime", "numbers"],
        "alike": ["prime", "numbers"], "triple_count": ["prime", "length"], "all_numbers": ["length"],
    },
    sizes: {"coefficients": ["word"], "holds": ["claim"], "refuting": ["claim"], "number_claim": ["kind"]},
}

GENERATORS = [carrying.all_numbers]

METHODS = {
    Space: {
        "__init__": ["self", "prime", "length", "vectors"], "nothing": ["prime", "length"],
        "whole": ["prime", "length"], "read": ["text"], "basis": ["self"], "rest": ["self", "vector"],
        "vectors": ["self"], "text": ["self"],
        "__len__": ["self"], "__eq__": ["self", "other"], "__le__": ["self", "other"], "__add__": ["self", "other"],
        "__and__": ["self", "other"], "__contains__": ["self", "vector"],
    },
    Word: {
        "__init__": ["self", "sign", "parts"], "read": ["text"], "__add__": ["self", "other"],
        "__and__": ["self", "other"], "__eq__": ["self", "other"], "__len__": ["self"], "text": ["self"],
        "swapped": ["self", "order"], "dual": ["self"],
    },
    Triple: {
        "__init__": ["self", "a", "b", "c"], "__getitem__": ["self", "hand"], "__eq__": ["self", "other"],
        "changed": ["self", "hand", "space"], "swapped": ["self", "order"], "beside": ["self", "other"],
    },
    Claim: {
        "__init__": ["self", "terms"], "read": ["text"], "__eq__": ["self", "other"], "__add__": ["self", "other"],
        "__sub__": ["self", "other"], "__neg__": ["self"], "__mul__": ["self", "other"], "on": ["self", "triple"],
        "total": ["self", "numbers"], "on_kinds": ["self"], "text": ["self"],
    },
    Facts: {
        "__init__": ["self", "within", "not_within"], "kinds": ["self"], "clashes": ["self"],
        "verdict": ["self", "one", "other"], "model": ["self", "one", "other", "inside"],
        "reason": ["self", "one", "other"], "clash_reason": ["self"],
        "shows": ["self", "one", "other", "reason"], "shows_clash": ["self", "reason"],
    },
}

CLASS_METHODS = {Space: ["nothing", "whole", "read"], Word: ["read"], Claim: ["read"]}
PROPERTIES = {
    Space: ["prime", "length"], Word: ["sign", "parts"], Triple: ["a", "b", "c", "prime", "length"],
    Claim: ["terms"], Facts: ["within", "not_within"],
}
BY_NAME = {Facts: ["within", "not_within"]}
PLACES = {
    Space: "handspaces.spaces", Word: "handspaces.words", Triple: "handspaces.triples", Claim: "handspaces.sizes",
    Facts: "handspaces.facts",
}


class Places(unittest.TestCase):
    def test_functions(self):
        for module, names in FUNCTIONS.items():
            for name, parameters in names.items():
                made = getattr(module, name)
                self.assertEqual(made.__module__, module.__name__)
                self.assertEqual(list(inspect.signature(made).parameters), parameters)

    def test_classes(self):
        for made, place in PLACES.items():
            self.assertEqual(made.__module__, place)
        for made in vars(errors).values():
            if inspect.isclass(made):
                self.assertEqual(made.__module__, "handspaces.errors")

    def test_methods_are_defined_in_the_class_itself(self):
        for made, methods in METHODS.items():
            for name, parameters in methods.items():
                self.assertIn(name, vars(made))
                self.assertEqual(list(inspect.signature(getattr(made, name)).parameters), parameters)
            for name in CLASS_METHODS.get(made, []):
                self.assertIsInstance(vars(made)[name], classmethod)
            for name in PROPERTIES[made]:
                self.assertIsInstance(vars(made)[name], property)

    def test_what_is_passed_by_name_only(self):
        for made, methods in METHODS.items():
            for name in methods:
                told = inspect.signature(getattr(made, name)).parameters.values()
                only = [parameter.name for parameter in told if parameter.kind == parameter.KEYWORD_ONLY]
                self.assertEqual(only, BY_NAME.get(made, []) if name == "__init__" else [])

    def test_generators(self):
        for made in (*GENERATORS, Space.vectors):
            self.assertTrue(inspect.isgeneratorfunction(made))

    def test_kinds(self):
        self.assertEqual(triples.KINDS, ("", "a", "b", "c", "ab", "ac", "bc", "abc", "plane"))


class Examples(unittest.TestCase):
    def test_rests(self):
        self.assertEqual(inverse(3, 7), 5)

    def test_spaces(self):
        one = Space(5, 3, [[2, 4, 1], [1, 2, 3]])
        other = Space(5, 3, [(0, 0, 4), (0, 1, 0)])
        self.assertEqual(
            (one.basis(), len(one + other), (one & other) == Space.nothing(5, 3), one.rest([1, 1, 1])),
            ([(1, 2, 3)], 3, True, (0, 4, 3)))
        self.assertEqual(
            (Space.read("3 2; 1 1").text(), [0, 4, 3] in one, list(Space(2, 2, [(1, 1)]).vectors())),
            ("3 2; 1 1", False, [(0, 0), (1, 1)]))
        with self.assertRaises(BadPrime) as caught:
            Space(4, 1)
        self.assertEqual(caught.exception.told, 4)

    def test_words(self):
        word = Word.read("(a+b)&(a+c)")
        self.assertEqual(
            (word.text(), len(word), word.swapped("bca").text(), word.dual().text()),
            ("(a + b) & (a + c)", 4, "(b + c) & (b + a)", "a & b + a & c"))
        self.assertTrue(Word("&", [Word("a"), Word("b") + Word("1")]) == Word.read("a & (b + 1)"))
        with self.assertRaises(BadColumn) as caught:
            Word.read("a + (b")
        self.assertEqual(caught.exception.column, 7)

    def test_triples(self):
        triple = Triple(Space(2, 2, [(1, 0)]), Space(2, 2, [(0, 1)]), Space(2, 2, [(1, 1)]))
        self.assertEqual(
            (triple == kind_triple(2, "plane"), value(Word.read("a & (b + c)"), triple).basis(),
             value(Word.read("a & b + a & c"), triple).basis()),
            (True, [(1, 0)], []))
        self.assertEqual(
            (triple_of(3, {"ab": 1, "plane": 1})["c"].basis(), triple["b"] == triple.swapped("bca").a),
            ([(0, 1, 1)], True))

    def test_pieces(self):
        triple = Triple(Space(2, 3, [(1, 0, 0), (0, 1, 0)]), Space(2, 3, [(0, 0, 1)]), Space(2, 3, [(1, 0, 1)]))
        told = nine_numbers(triple)
        self.assertEqual((told["plane"], told["a"], sum(told.values())), (1, 1, 2))
        self.assertEqual(
            (is_apart(triple, pieces.pieces(triple)),
             is_apart(triple, [("plane", [(1, 0, 0), (0, 0, 1)]), ("a", [(1, 1, 0)])])),
            (True, True))

    def test_classes(self):
        one = Word.read("a & (b + c)")
        other = Word.read("a & b + a & c")
        self.assertEqual(
            (same(one, other), parting(one, other), below(other, one), breach(one, other), marks(one)["plane"]),
            (False, "plane", True, "plane", "a"))
        words = Word.read("a & (b + a & c)"), Word.read("(a + c) & (b + a & b + c) & (a + b)")
        self.assertEqual(
            (plain(words[0]).text(), plain(words[1]).text()),
            ("a & b + a & c", "(a + b) & (a + c) & (b + c)"))

    def test_carrying(self):
        one = kind_triple(3, "plane")
        other = Triple(Space(3, 2, [(1, 1)]), Space(3, 2, [(0, 1)]), Space(3, 2, [(1, 0)]))
        apart = kind_triple(3, "a").beside(kind_triple(3, "b"))
        self.assertEqual(
            (is_carried(carry(one, other), one, other), is_carried([(1, 0), (0, 1)], one, other), carry(one, apart)),
            (True, False, None))
        self.assertEqual(
            (keepers(2, {"plane": 1}), alike(2, {"plane": 1}), triple_count(2, 2), len(list(all_numbers(2)))),
            (1, 6, 125, 37))

    def test_sizes(self):
        told = coefficients(Word.read("a & (b + c)"))
        self.assertEqual((told["a"], told["ab"], told["abc"], told["plane"]), (0, 1, 1, 1))
        less = Claim.read("1 |a|, 1 |b|, -1 |a + b|, -1 |a & b|")
        three = Claim.read(
            "1 |a|, 1 |b|, 1 |c|, -1 |a + b + c|, -1 |a & b|, -1 |a & c|, -1 |b & c|, 1 |a & b & c|")
        self.assertEqual(
            (holds(less), holds(-less), refuting(Claim.read("1 |a|, -1 |b|")), holds(three), refuting(-three)),
            (True, True, "b", True, "plane"))
        terms = [(1, Word.read("a & (b + c)")), (-1, Word.read("a & b + a & c"))]
        self.assertEqual((three.total({"plane": 2, "a": 5}), three == Claim(terms)), (2, True))
        with self.assertRaises(BadText):
            Claim.read("1 |a|,1 |b|")

    def test_facts(self):
        a, b, c = Word("a"), Word("b"), Word("c")
        told = facts.Facts(within=[(c, a + b), (a & b, c)], not_within=[(a & (b + c), a & b + a & c)])
        self.assertEqual(
            (told.kinds(), told.verdict(c, a), told.verdict(b & c, a), told.verdict(a & b, b & c)),
            (["", "a", "b", "ac", "bc", "abc", "plane"], "barred", "open", "sure"))
        self.assertEqual(
            (told.model(b & c, a, True)["bc"], told.shows(c, a, told.reason(c, a)), told.clashes()),
            (0, True, False))


class Form(unittest.TestCase):
    """Only those rules of the language subset that are quick to check."""

    def files(self):
        return [path for path in FOLDER.rglob("*") if path.is_file() and "__pycache__" not in path.parts]

    def test_folder_holds_only_python_files(self):
        for path in self.files():
            self.assertEqual(path.suffix, ".py", path)
        self.assertTrue((FOLDER / "__init__.py").is_file())

    def test_sizes_and_characters(self):
        for path in self.files():
            lines = path.read_text(encoding="ascii").split("\n")
            self.assertLess(len(lines), 400, path)
            for line in lines:
                self.assertLessEqual(len(line), 120, (path, line))
                self.assertTrue(all(" " <= character <= "~" for character in line), (path, line))

    def test_functions_and_imports(self):
        for path in self.files():
            for node in ast.walk(ast.parse(path.read_text(encoding="ascii"))):
                if isinstance(node, ast.FunctionDef):
                    self.assertLessEqual(node.end_lineno - node.lineno + 1, 40, (path, node.name))
                self.assertNotIsInstance(node, ast.Import, path)
                if isinstance(node, ast.ImportFrom):
                    own = node.module.startswith("handspaces.")
                    self.assertTrue(own or node.module in LIBRARY, (path, node.module))


if __name__ == "__main__":
    unittest.main()

"""Names, arguments and places of the interface, its examples, and the form of the files."""

import ast
import inspect
import unittest
from pathlib import Path

from handspaces import (
    carrying, chains, classes, desk, errors, facts, learning, pieces, rests, sizes, spaces, triples, words)
from handspaces.bounds import SizeFacts
from handspaces.carrying import all_numbers, alike, carry, is_carried, keepers, triple_count
from handspaces.chains import (
    Chains, cell_table, chain_breach, chain_cells, chain_parting, chain_value, plain_chain_word, plain_chain_words,
    position)
from handspaces.classes import below, breach, marks, parting, plain, same
from handspaces.desk import Desk, read_desk
from handspaces.errors import BadColumn, BadLine, BadPrime, BadText, Barred, NoSpace
from handspaces.facts import Facts
from handspaces.learning import between, fewest, learn, moved, moves, teaching, vector_for, ways
from handspaces.pieces import is_apart, nine_numbers
from handspaces.rests import inverse
from handspaces.sizes import Claim, coefficients, holds, refuting
from handspaces.spaces import Space
from handspaces.triples import Triple, kind_triple, triple_of, value
from handspaces.words import Word

FOLDER = Path(errors.__file__).parent
LIBRARY = ("heapq", "itertools", "math")

FUNCTIONS = {
    rests: {"is_integer": ["value"], "is_prime": ["value"], "inverse": ["number", "prime"]},
    spaces: {"extension": ["inner", "outer"], "image": ["space", "matrix"]},
    triples: {"value": ["word", "triple"], "kind_triple": ["prime", "kind"], "triple_of": ["prime", "numbers"]},
    pieces: {"pieces": ["triple"], "is_apart": ["triple", "pieces"], "nine_numbers": ["triple"]},
    classes: {
        "marks": ["word"], "same": ["one", "other"], "below": ["one", "other"], "parting": ["one", "other"],
        "breach": ["one", "other"], "plain_words": [], "plain": ["word"],
    },
    carrying: {
        "carry": ["one", "other"], "is_carried": ["matrix", "one", "other"], "keepers": ["prime", "numbers"],
        "alike": ["prime", "numbers"], "triple_count": ["prime", "length"], "all_numbers": ["length"],
    },
    sizes: {"coefficients": ["word"], "holds": ["claim"], "refuting": ["claim"], "number_claim": ["kind"]},
    chains: {
        "common_basis": ["chains"], "is_common_basis": ["chains", "rows"], "cell_table": ["chains"],
        "chain_value": ["word", "chains"], "chain_cells": ["word", "first", "second"],
        "chain_parting": ["one", "other", "first", "second"], "chain_breach": ["one", "other", "first", "second"],
        "cell_chains": ["prime", "first", "second", "cell"], "plain_chain_word": ["word", "first", "second"],
        "plain_chain_words": ["first", "second"], "position": ["chains"], "chains_at": ["prime", "order"],
        "carry_chains": ["one", "other"],
    },
    learning: {
        "moves": ["hand"], "learn": ["triple", "hand", "vector"], "ways": ["triple", "hand"],
        "vector_for": ["triple", "move"], "moved": ["numbers", "row"], "teaching": ["triple", "row"],
        "fewest": ["numbers", "claims"], "between": ["numbers", "goal"],
    },
    desk: {"read_desk": ["text"]},
}

GENERATORS = [carrying.all_numbers, chains.plain_chain_words]

METHODS = {
    Space: {
        "__init__": ["self", "prime", "length", "vectors"], "nothing": ["prime", "length"],
        "whole": ["prime", "length"], "read": ["text"], "basis": ["self"], "rest": ["self", "vector"],
        "vectors": ["self"], "text": ["self"],
        "__len__": ["self"], "__eq__": ["self", "other"], "__le__": ["self", "other"], "__add__": ["self", "other"],
        "__and__": ["self", "other"], "__contains__": ["self", "vector"],
    },
    Word: {
        "__init__": ["self", "sign", "parts"], "read": ["text"], "__add__": ["self", "other"],
        "__and__": ["self", "other"], "__eq__": ["self", "other"], "__len__": ["self"], "text": ["self"],
        "swapped": ["self", "order"], "dual": ["self"],
    },
    Triple: {
        "__init__": ["self", "a", "b", "c"], "__getitem__": ["self", "hand"], "__eq__": ["self", "other"],
        "changed": ["self", "hand", "space"], "swapped": ["self", "order"], "beside": ["self", "other"],
    },
    Claim: {
        "__init__": ["self", "terms"], "read": ["text"], "__eq__": ["self", "other"], "__add__": ["self", "other"],
        "__sub__": ["self", "other"], "__neg__": ["self"], "__mul__": ["self", "other"], "on": ["self", "triple"],
        "total": ["self", "numbers"], "on_kinds": ["self"], "text": ["self"],
    },
    Facts: {
        "__init__": ["self", "within", "not_within"], "kinds": ["self"], "clashes": ["self"],
        "verdict": ["self", "one", "other"], "model": ["self", "one", "other", "inside"],
        "reason": ["self", "one", "other"], "clash_reason": ["self"],
        "shows": ["self", "one", "other", "reason"], "shows_clash": ["self", "reason"],
    },
    SizeFacts: {
        "__init__": ["self", "weak", "strict"], "keep": ["self", "numbers"], "model": ["self"],
        "follows": ["self", "claim", "strict"], "counter": ["self", "claim", "strict"],
        "weights": ["self", "claim", "strict"], "is_weights": ["self", "claim", "strict", "weights"],
        "clash_weights": ["self"], "needless": ["self"],
    },
    Chains: {"__init__": ["self", "first", "second"]},
    Desk: {
        "__init__": ["self", "prime", "length"], "__len__": ["self"], "learn": ["self", "hand", "vector"],
        "steps": ["self"], "triple": ["self"], "numbers": ["self"], "knows": ["self", "hands", "vector"],
        "tellers": ["self", "vector"], "undo": ["self"], "redo": ["self"], "trial": ["self"],
        "supposed": ["self", "steps", "word"], "text": ["self"],
    },
}

CLASS_METHODS = {Space: ["nothing", "whole", "read"], Word: ["read"], Claim: ["read"]}
PROPERTIES = {
    Space: ["prime", "length"], Word: ["sign", "parts"], Triple: ["a", "b", "c", "prime", "length"],
    Claim: ["terms"], Facts: ["within", "not_within"], SizeFacts: ["weak", "strict"],
    Chains: ["first", "second", "prime", "length"], Desk: [],
}
BY_NAME = {Facts: ["within", "not_within"], SizeFacts: ["weak", "strict"]}
PLACES = {
    Space: "handspaces.spaces", Word: "handspaces.words", Triple: "handspaces.triples", Claim: "handspaces.sizes",
    Facts: "handspaces.facts", SizeFacts: "handspaces.bounds", Chains: "handspaces.chains", Desk: "handspaces.desk",
}


class Places(unittest.TestCase):
    def test_functions(self):
        for module, names in FUNCTIONS.items():
            for name, parameters in names.items():
                made = getattr(module, name)
                self.assertEqual(made.__module__, module.__name__)
                self.assertEqual(list(inspect.signature(made).parameters), parameters)

    def test_classes(self):
        for made, place in PLACES.items():
            self.assertEqual(made.__module__, place)
        for made in vars(errors).values():
            if inspect.isclass(made):
                self.assertEqual(made.__module__, "handspaces.errors")

    def test_methods_are_defined_in_the_class_itself(self):
        for made, methods in METHODS.items():
            for name, parameters in methods.items():
                self.assertIn(name, vars(made))
                self.assertEqual(list(inspect.signature(getattr(made, name)).parameters), parameters)
            for name in CLASS_METHODS.get(made, []):
                self.assertIsInstance(vars(made)[name], classmethod)
            for name in PROPERTIES[made]:
                self.assertIsInstance(vars(made)[name], property)

    def test_what_is_passed_by_name_only(self):
        for made, methods in METHODS.items():
            for name in methods:
                told = inspect.signature(getattr(made, name)).parameters.values()
                only = [parameter.name for parameter in told if parameter.kind == parameter.KEYWORD_ONLY]
                self.assertEqual(only, BY_NAME.get(made, []) if name == "__init__" else [])

    def test_generators(self):
        for made in (*GENERATORS, Space.vectors):
            self.assertTrue(inspect.isgeneratorfunction(made))

    def test_kinds(self):
        self.assertEqual(triples.KINDS, ("", "a", "b", "c", "ab", "ac", "bc", "abc", "plane"))


class Examples(unittest.TestCase):
    def test_rests(self):
        self.assertEqual(inverse(3, 7), 5)

    def test_spaces(self):
        one = Space(5, 3, [[2, 4, 1], [1, 2, 3]])
        other = Space(5, 3, [(0, 0, 4), (0, 1, 0)])
        self.assertEqual(
            (one.basis(), len(one + other), (one & other) == Space.nothing(5, 3), one.rest([1, 1, 1])),
            ([(1, 2, 3)], 3, True, (0, 4, 3)))
        self.assertEqual(
            (Space.read("3 2; 1 1").text(), [0, 4, 3] in one, list(Space(2, 2, [(1, 1)]).vectors())),
            ("3 2; 1 1", False, [(0, 0), (1, 1)]))
        with self.assertRaises(BadPrime) as caught:
            Space(4, 1)
        self.assertEqual(caught.exception.told, 4)

    def test_words(self):
        word = Word.read("(a+b)&(a+c)")
        self.assertEqual(
            (word.text(), len(word), word.swapped("bca").text(), word.dual().text()),
            ("(a + b) & (a + c)", 4, "(b + c) & (b + a)", "a & b + a & c"))
        self.assertTrue(Word("&", [Word("a"), Word("b") + Word("1")]) == Word.read("a & (b + 1)"))
        with self.assertRaises(BadColumn) as caught:
            Word.read("a + (b")
        self.assertEqual(caught.exception.column, 7)

    def test_triples(self):
        triple = Triple(Space(2, 2, [(1, 0)]), Space(2, 2, [(0, 1)]), Space(2, 2, [(1, 1)]))
        self.assertEqual(
            (triple == kind_triple(2, "plane"), value(Word.read("a & (b + c)"), triple).basis(),
             value(Word.read("a & b + a & c"), triple).basis()),
            (True, [(1, 0)], []))
        self.assertEqual(
            (triple_of(3, {"ab": 1, "plane": 1})["c"].basis(), triple["b"] == triple.swapped("bca").a),
            ([(0, 1, 1)], True))

    def test_pieces(self):
        triple = Triple(Space(2, 3, [(1, 0, 0), (0, 1, 0)]), Space(2, 3, [(0, 0, 1)]), Space(2, 3, [(1, 0, 1)]))
        told = nine_numbers(triple)
        self.assertEqual((told["plane"], told["a"], sum(told.values())), (1, 1, 2))
        self.assertEqual(
            (is_apart(triple, pieces.pieces(triple)),
             is_apart(triple, [("plane", [(1, 0, 0), (0, 0, 1)]), ("a", [(1, 1, 0)])])),
            (True, True))

    def test_classes(self):
        one = Word.read("a & (b + c)")
        other = Word.read("a & b + a & c")
        self.assertEqual(
            (same(one, other), parting(one, other), below(other, one), breach(one, other), marks(one)["plane"]),
            (False, "plane", True, "plane", "a"))
        words = Word.read("a & (b + a & c)"), Word.read("(a + c) & (b + a & b + c) & (a + b)")
        self.assertEqual(
            (plain(words[0]).text(), plain(words[1]).text()),
            ("a & b + a & c", "(a + b) & (a + c) & (b + c)"))

    def test_carrying(self):
        one = kind_triple(3, "plane")
        other = Triple(Space(3, 2, [(1, 1)]), Space(3, 2, [(0, 1)]), Space(3, 2, [(1, 0)]))
        apart = kind_triple(3, "a").beside(kind_triple(3, "b"))
        self.assertEqual(
            (is_carried(carry(one, other), one, other), is_carried([(1, 0), (0, 1)], one, other), carry(one, apart)),
            (True, False, None))
        self.assertEqual(
            (keepers(2, {"plane": 1}), alike(2, {"plane": 1}), triple_count(2, 2), len(list(all_numbers(2)))),
            (1, 6, 125, 37))

    def test_sizes(self):
        told = coefficients(Word.read("a & (b + c)"))
        self.assertEqual((told["a"], told["ab"], told["abc"], told["plane"]), (0, 1, 1, 1))
        less = Claim.read("1 |a|, 1 |b|, -1 |a + b|, -1 |a & b|")
        three = Claim.read(
            "1 |a|, 1 |b|, 1 |c|, -1 |a + b + c|, -1 |a & b|, -1 |a & c|, -1 |b & c|, 1 |a & b & c|")
        self.assertEqual(
            (holds(less), holds(-less), refuting(Claim.read("1 |a|, -1 |b|")), holds(three), refuting(-three)),
            (True, True, "b", True, "plane"))
        terms = [(1, Word.read("a & (b + c)")), (-1, Word.read("a & b + a & c"))]
        self.assertEqual((three.total({"plane": 2, "a": 5}), three == Claim(terms)), (2, True))
        with self.assertRaises(BadText):
            Claim.read("1 |a|,1 |b|")

    def test_facts(self):
        a, b, c = Word("a"), Word("b"), Word("c")
        told = facts.Facts(within=[(c, a + b), (a & b, c)], not_within=[(a & (b + c), a & b + a & c)])
        self.assertEqual(
            (told.kinds(), told.verdict(c, a), told.verdict(b & c, a), told.verdict(a & b, b & c)),
            (["", "a", "b", "ac", "bc", "abc", "plane"], "barred", "open", "sure"))
        self.assertEqual(
            (told.model(b & c, a, True)["bc"], told.shows(c, a, told.reason(c, a)), told.clashes()),
            (0, True, False))

    def test_bounds(self):
        told = SizeFacts(weak=[Claim.read("1 |a|, -1 |b|")], strict=[Claim.read("1 |b|, -1 |c|")])
        wished = Claim.read("1 |a|, -1 |c|")
        scale, weak, strict, _ = told.weights(wished, strict=True)
        self.assertEqual(
            (told.follows(wished, strict=True), weak[0] == scale, strict[0] == scale,
             told.follows(Claim.read("1 |c|, -1 |a & b|"))),
            (True, True, True, False))
        more = SizeFacts(weak=[Claim.read("1 |a & b|, -1 |a|"), Claim.read("1 |a + b|, -1 |a|")])
        self.assertEqual(
            (more.needless(), more.clash_weights(), more.counter(Claim.read("1 |b|, -1 |a|"))),
            ([("weak", 1)], None, None))

    def test_chains(self):
        whole = Space.whole(3, 2)
        told = Chains([Space(3, 2, [(1, 1)]), whole], [Space(3, 2, [(0, 1)]), whole])
        table = cell_table(told)
        self.assertEqual((table[(1, 2)], table[(2, 1)], table[(1, 1)], position(told)), (1, 1, 0, (2, 1)))
        one = ("&", ("a", 1), ("+", ("b", 1), ("a", 2)))
        self.assertEqual(
            (chain_parting(one, ("a", 1), 2, 1), plain_chain_word(one, 2, 1), chain_cells(one, 2, 1),
             chain_breach(one, ("b", 1), 2, 1)),
            (None, ("a", 1), [(1, 1), (1, 2)], (1, 2)))
        self.assertEqual(
            (len(list(plain_chain_words(1, 1))), chain_value(("+", ("a", 1), ("b", 1)), told) == whole), (6, True))
        with self.assertRaises(NoSpace) as caught:
            chain_cells(("+", ("a", 1), ("b", 3)), 2, 2)
        self.assertEqual(caught.exception.part, ("b", 3))

    def test_learning(self):
        triple = kind_triple(2, "b").beside(kind_triple(2, "c"))
        told, move = learn(triple, "a", [1, 1])
        self.assertEqual(
            (move, moves("b")[5], ways(triple, "a")[move], ways(triple, "a")[None],
             told == kind_triple(2, "plane").swapped("cab")),
            (("a", ("b", "c"), ("plane",)), ("b", ("plane",), ("ab", "bc")), 1, 1, True))
        row = fewest({"b": 1, "c": 1}, [Claim.read("1 |a & (b + c)|, -1 |1|")])
        self.assertEqual(
            (len(row), moved({"b": 1, "c": 1}, row)["ac"], between({"a": 1}, {"b": 1})), (2, 1, None))
        hand, vector = teaching(triple, [("b", ("c",), ("bc",))])[0]
        self.assertEqual(
            (vector_for(triple, ("a", ("bc",), ("abc",))) is None, hand, learn(triple, hand, vector)[1]),
            (True, "b", ("b", ("c",), ("bc",))))
        with self.assertRaises(Barred) as caught:
            moved({}, [("a", ("",), ("a",))])
        self.assertEqual(caught.exception.spot, 0)

    def test_desk(self):
        told = Desk(3, 2)
        self.assertEqual(
            (told.learn("b", (1, 0)), told.learn("c", (0, 4)), told.learn("a", (1, 1))),
            (("b", ("",), ("b",)), ("c", ("",), ("c",)), ("a", ("b", "c"), ("plane",))))
        self.assertEqual(
            (told.knows("ab", (0, 2)), told.tellers((1, 1)), told.tellers((1, 2)), told.steps()[1]),
            (True, ["a", "bc"], ["ab", "ac", "bc"], ("c", (0, 1))))
        self.assertEqual(
            (len(told.supposed([("a", (1, 0))], Word.read("a & b"))), len(told), told.text()),
            (1, 3, "3 2\nb 1 0\nc 0 1\na 1 1"))
        with self.assertRaises(BadLine) as caught:
            read_desk("3 2\na 1").steps()
        self.assertEqual(caught.exception.line, 2)


class Form(unittest.TestCase):
    """Only those rules of the language subset that are quick to check."""

    def files(self):
        return [path for path in FOLDER.rglob("*") if path.is_file() and "__pycache__" not in path.parts]

    def test_folder_holds_only_python_files(self):
        for path in self.files():
            self.assertEqual(path.suffix, ".py", path)
        self.assertTrue((FOLDER / "__init__.py").is_file())

    def test_sizes_and_characters(self):
        for path in self.files():
            lines = path.read_text(encoding="ascii").split("\n")
            self.assertLess(len(lines), 400, path)
            for line in lines:
                self.assertLessEqual(len(line), 120, (path, line))
                self.assertTrue(all(" " <= character <= "~" for character in line), (path, line))

    def test_functions_and_imports(self):
        for path in self.files():
            for node in ast.walk(ast.parse(path.read_text(encoding="ascii"))):
                if isinstance(node, ast.FunctionDef):
                    self.assertLessEqual(node.end_lineno - node.lineno + 1, 40, (path, node.name))
                self.assertNotIsInstance(node, ast.Import, path)
                if isinstance(node, ast.ImportFrom):
                    own = node.module.startswith("handspaces.")
                    self.assertTrue(own or node.module in LIBRARY, (path, node.module))


if __name__ == "__main__":
    unittest.main()

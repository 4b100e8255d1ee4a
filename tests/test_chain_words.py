import unittest
from collections import Counter
from itertools import product
from math import comb
from random import Random

from drawn import PRIMES, drawn_word
from drawnchains import all_cells, cells_in, drawn_chain_word, drawn_chains, set_of_word
from values import ANY_VALUES, is_like

from handspaces.chains import (
    Chains, cell_chains, cell_table, chain_breach, chain_cells, chain_parting, chain_value, common_basis,
    plain_chain_word, plain_chain_words)
from handspaces.errors import BadPrime, NoCell, NoSpace
from handspaces.spaces import Space
from handspaces.triples import Triple, value
from handspaces.words import Word

NO_PRIMES = [0, 1, 4, 9, 14, -2, True, None, "2", [2], (2,), {}]
SIZES = list(product(range(1, 5), repeat=2))
SMALL = ((2, 0), (2, 1), (2, 3), (2, 4), (3, 2), (3, 3), (5, 2), (7, 2), (11, 1), (13, 1))


def first_of(found):
    return min(found) if found else None


class Value(unittest.TestCase):
    def test_against_sets_of_vectors(self):
        random = Random(240)
        for prime, length in SMALL:
            for at in range(25):
                chains = drawn_chains(random, prime, length)
                word = drawn_chain_word(random, 1 + at % 7, len(chains.first), len(chains.second))
                kept = repr(word)
                told = chain_value(word, chains)
                self.assertEqual((told.prime, told.length), (prime, length))
                self.assertEqual(frozenset(told.vectors()), set_of_word(word, chains), word)
                self.assertEqual(repr(word), kept)

    def test_24_tuples(self):
        random = Random(241)
        for prime, length in SMALL:
            chains = drawn_chains(random, prime, length)
            word = drawn_chain_word(random, 12, len(chains.first), len(chains.second))
            self.assertEqual(frozenset(chain_value(word=word, chains=chains).vectors()), set_of_word(word, chains))

    def test_each_space(self):
        random = Random(242)
        for prime in PRIMES:
            chains = drawn_chains(random, prime, 7)
            for at, space in enumerate(chains.first, start=1):
                self.assertEqual(chain_value(("a", at), chains), space)
            for at, space in enumerate(chains.second, start=1):
                self.assertEqual(chain_value(("b", at), chains), space)
            self.assertEqual(chain_value(("0",), chains), Space.nothing(prime, 7))
            self.assertEqual(chain_value(("1",), chains), Space.whole(prime, 7))

    def test_basis_of_the_cells_of_a_word(self):
        random = Random(243)
        for at in range(100):
            chains = drawn_chains(random, PRIMES[at % 6], at % 8)
            first, second = len(chains.first), len(chains.second)
            word = drawn_chain_word(random, 1 + at % 6, first, second)
            cells = chain_cells(word, first, second)
            rows = [vector for i, j, vector in common_basis(chains) if (i, j) in cells]
            told = chain_value(word, chains)
            self.assertEqual(Space(chains.prime, chains.length, rows), told)
            self.assertEqual(len(rows), len(told))
            table = cell_table(chains)
            self.assertEqual(len(told), sum(table[cell] for cell in cells))

    def test_chains_of_the_words_of_a_triple(self):
        # Chains within a triple: what a chain word stands for is the value of the word that it is.
        random = Random(244)
        for at in range(80):
            triple = Triple(*[Space(PRIMES[at % 6], 4, [[random.randrange(5) for _ in range(4)] for _ in range(
                random.randrange(4))]) for _ in "abc"])
            words = []
            for _ in range(2):
                chain = [drawn_word(random, 3)]
                for _ in range(random.randrange(4)):
                    chain.append(chain[-1] + drawn_word(random, 3))
                words.append(chain)
            chains = Chains(*[[value(word, triple) for word in chain] for chain in words])
            told = drawn_chain_word(random, 1 + at % 6, len(words[0]), len(words[1]))
            self.assertEqual(chain_value(told, chains), value(self.word_of(told, words), triple))

    def word_of(self, told, words):
        if told[0] in ("0", "1"):
            return Word(told[0])
        if told[0] in ("a", "b"):
            return words["ab".index(told[0])][told[1] - 1]
        one, other = [self.word_of(part, words) for part in told[1:]]
        return one + other if told[0] == "+" else one & other


class NoSpaces(unittest.TestCase):
    def parts(self, word):
        """The tuples of a word that have no parts, from left to right."""
        return [part for told in word[1:] for part in self.parts(told)] if word[0] in "+&" else [word]

    def wrong(self, word, first, second):
        """The tuples that name no space, from left to right."""
        return [part for part in self.parts(word) if len(part) == 2
                and not 1 <= part[1] <= (first if part[0] == "a" else second)]

    def spoilt(self, random, word, first, second):
        """A word in which drawn parts have another integer."""
        if word[0] in "+&":
            return word[0], self.spoilt(random, word[1], first, second), self.spoilt(random, word[2], first, second)
        if len(word) == 2 and random.random() < 0.3:
            return word[0], random.choice((0, -1, first + 1, second + 1, 5, 6, 10 ** 30, -10 ** 30))
        return word

    def refused(self, part, function, *arguments):
        with self.assertRaises(NoSpace) as caught:
            function(*arguments)
        self.assertTrue(is_like(caught.exception.part, part))

    def test_the_first_from_left_to_right(self):
        random = Random(245)
        found = Counter()
        for at in range(400):
            first, second = SIZES[at % 16]
            word, other = [self.spoilt(random, drawn_chain_word(random, 1 + at % 9, first, second), first, second)
                           for _ in range(2)]
            wrong, more = self.wrong(word, first, second), self.wrong(other, first, second)
            both = wrong + more
            found[min(2, len(wrong)), min(2, len(more))] += 1
            chains = drawn_chains(random, 3, 2, first, second)
            if wrong:
                self.refused(wrong[0], chain_value, word, chains)
                self.refused(wrong[0], chain_cells, word, first, second)
                self.refused(wrong[0], plain_chain_word, word, first, second)
            else:
                self.assertEqual(set(chain_cells(word, first, second)), cells_in(word, first, second))
            for function in (chain_parting, chain_breach):
                if both:
                    self.refused(both[0], function, word, other, first, second)
                else:
                    function(word, other, first, second)
        self.assertEqual(len(found), 9)

    def test_the_space_behind_the_last_one_has_no_number(self):
        for first, second in SIZES:
            for part in (("a", first + 1), ("b", second + 1), ("a", 0), ("b", 0), ("a", -1), ("b", -1)):
                for word in (part, ("+", part, ("1",)), ("&", ("0",), part), ("+", ("a", first), part)):
                    self.refused(part, chain_cells, word, first, second)
                    self.refused(part, plain_chain_word, word, first, second)
            self.assertEqual(len(chain_cells(("a", first), first, second)), first * (second + 1))

    def test_numbers_of_the_other_chain(self):
        self.refused(("a", 2), chain_cells, ("a", 2), 1, 4)
        self.refused(("b", 2), chain_cells, ("b", 2), 4, 1)
        self.assertEqual(chain_cells(("b", 2), 1, 2), [(1, 1), (1, 2), (2, 1), (2, 2)])
        one = Chains([Space.whole(2, 1)], [Space.whole(2, 1)] * 3)
        self.refused(("a", 3), chain_value, ("&", ("b", 3), ("a", 3)), one)
        self.assertEqual(chain_value(("b", 3), one), Space.whole(2, 1))


class Cells(unittest.TestCase):
    def test_chain_cells(self):
        random = Random(246)
        for at in range(300):
            first, second = SIZES[at % 16]
            word = drawn_chain_word(random, 1 + at % 12, first, second)
            told = chain_cells(word, first, second)
            self.assertIs(type(told), list)
            self.assertEqual(told, sorted(cells_in(word, first, second)))
            self.assertTrue(all(type(cell) is tuple for cell in told))

    def test_told_ones(self):
        self.assertEqual(chain_cells(("0",), 4, 4), [])
        self.assertEqual(chain_cells(word=("1",), first=1, second=2), all_cells(1, 2))
        self.assertEqual(chain_cells(("a", 1), 1, 1), [(1, 1), (1, 2)])
        self.assertEqual(chain_cells(("b", 1), 1, 1), [(1, 1), (2, 1)])
        self.assertEqual(chain_cells(("+", ("a", 1), ("b", 1)), 1, 1), [(1, 1), (1, 2), (2, 1)])

    def test_parting_and_breach(self):
        random = Random(247)
        found = Counter()
        for at in range(500):
            first, second = SIZES[at % 16]
            one, other = [drawn_chain_word(random, 1 + random.randrange(4), first, second) for _ in range(2)]
            if at % 5 == 0:
                other = ("&", one, other)
            x, y = cells_in(one, first, second), cells_in(other, first, second)
            unlike, out = first_of(x ^ y), first_of(x - y)
            self.assertEqual(chain_parting(one, other, first, second), unlike)
            self.assertEqual(chain_breach(one=one, other=other, first=first, second=second), out)
            found[unlike is None, out is None] += 1
            if unlike is not None:
                self.differs(one, other, first, second, unlike, unlike in x)
            if out is not None:
                self.differs(one, other, first, second, out, True)
        self.assertGreater(min(found.values()), 20)
        self.assertEqual(len(found), 3)

    def differs(self, one, other, first, second, cell, inside):
        """The values in the chains of a cell show what is in it."""
        chains = cell_chains(7, first, second, cell)
        self.assertEqual([len(chain_value(word, chains)) for word in (one, other)], [int(inside), int(not inside)])

    def test_what_always_holds_is_so_in_drawn_chains(self):
        random = Random(248)
        found = Counter()
        for at in range(250):
            first, second = 1 + at % 2, 1 + at % 3
            one, other = [drawn_chain_word(random, 1 + random.randrange(4), first, second) for _ in range(2)]
            chains = drawn_chains(random, PRIMES[at % 6], at % 6, first, second)
            if chain_breach(one, other, first, second) is None:
                found["within"] += 1
                self.assertLessEqual(chain_value(one, chains), chain_value(other, chains))
            if chain_parting(one, other, first, second) is None:
                found["alike"] += 1
                self.assertEqual(chain_value(one, chains), chain_value(other, chains))
        self.assertGreater(min(found["within"], found["alike"]), 20)


class CellChains(unittest.TestCase):
    def test_of_each_cell(self):
        random = Random(249)
        for first, second in SIZES:
            words = [drawn_chain_word(random, 1 + at % 6, first, second) for at in range(12)]
            for at, cell in enumerate(all_cells(first, second)):
                prime = PRIMES[at % 6]
                chains = cell_chains(prime, first, second, cell)
                self.assertIs(type(chains), Chains)
                self.assertEqual((chains.prime, chains.length), (prime, 1))
                self.assertEqual((len(chains.first), len(chains.second)), (first, second))
                self.assertEqual([(i, j) for i, j, _ in common_basis(chains)], [cell])
                for word in words:
                    self.assertEqual(len(chain_value(word, chains)), int(cell in cells_in(word, first, second)))

    def test_bad_prime_comes_first(self):
        for prime in NO_PRIMES:
            for cell in ((1, 1), (0, 0), None, [1, 1], (9, 9)):
                with self.assertRaises(BadPrime) as caught:
                    cell_chains(prime, 1, 1, cell)
                self.assertTrue(is_like(caught.exception.told, prime))

    def test_no_cells(self):
        wrong = [*ANY_VALUES, [1, 1], (1,), (1, 1, 1), (True, 1), (1, True), (1, None), ("1", "1"), (1, (1,)), "11",
                 {1: 1},
                 (1, [1]), (0, 1), (1, 0), (-1, 1), (1, -1), (10 ** 30, 1), ((1, 1), (1, 1)), (False, 1), (1, {})]
        for first, second in SIZES:
            for cell in [*wrong, (first + 2, 1), (1, second + 2), (first + 2, second + 2)]:
                with self.subTest(cell=cell):
                    with self.assertRaises(NoCell) as caught:
                        cell_chains(2, first, second, cell)
                    self.assertTrue(is_like(caught.exception.cell, cell))
            self.assertEqual(cell_chains(prime=2, first=first, second=second, cell=(first + 1, second + 1)).length, 1)


class Plain(unittest.TestCase):
    def form(self, cells, first, second):
        """The form that the document describes, of a set of cells."""
        terms = []
        for i, j in sorted(cells):
            if (i + 1, j) in cells or (i, j + 1) in cells:
                continue
            if i == first + 1 and j == second + 1:
                terms.append(("1",))
            elif i == first + 1:
                terms.append(("b", j))
            else:
                terms.append(("a", i) if j == second + 1 else ("&", ("a", i), ("b", j)))
        form = terms[0] if terms else ("0",)
        for term in terms[1:]:
            form = ("+", form, term)
        return form

    def test_drawn_words(self):
        random = Random(250)
        for at in range(400):
            first, second = SIZES[at % 16]
            word = drawn_chain_word(random, 1 + at % 12, first, second)
            told = plain_chain_word(word, first, second)
            cells = cells_in(word, first, second)
            self.assertTrue(is_like(told, self.form(cells, first, second)), (word, told))
            self.assertEqual(cells_in(told, first, second), cells)
            self.assertEqual(plain_chain_word(word=told, first=first, second=second), told)
            self.assertIsNone(chain_parting(word, told, first, second))

    def test_it_stands_for_the_same_space(self):
        random = Random(251)
        for at in range(120):
            chains = drawn_chains(random, PRIMES[at % 6], at % 6)
            first, second = len(chains.first), len(chains.second)
            word = drawn_chain_word(random, 1 + at % 8, first, second)
            self.assertEqual(chain_value(plain_chain_word(word, first, second), chains), chain_value(word, chains))

    def test_equal_exactly_if_the_words_are_the_same(self):
        random = Random(252)
        found = Counter()
        for at in range(400):
            first, second = SIZES[at % 4]
            one, other = [drawn_chain_word(random, 1 + random.randrange(5), first, second) for _ in range(2)]
            equal = plain_chain_word(one, first, second) == plain_chain_word(other, first, second)
            self.assertIs(equal, chain_parting(one, other, first, second) is None)
            found[equal] += 1
        self.assertGreater(min(found.values()), 30)

    def test_told_ones(self):
        for word, form in (
            (("0",), ("0",)), (("1",), ("1",)), (("a", 2), ("a", 2)), (("b", 1), ("b", 1)),
            (("&", ("b", 1), ("a", 2)), ("&", ("a", 2), ("b", 1))),
            (("+", ("b", 2), ("a", 1)), ("+", ("a", 1), ("b", 2))),
            (("+", ("a", 1), ("a", 2)), ("a", 2)), (("&", ("a", 1), ("0",)), ("0",)), (("+", ("a", 1), ("1",)), ("1",)),
            (("+", ("+", ("&", ("a", 2), ("b", 1)), ("&", ("a", 1), ("b", 2))), ("0",)),
             ("+", ("&", ("a", 1), ("b", 2)), ("&", ("a", 2), ("b", 1)))),
            (("&", ("+", ("a", 1), ("b", 1)), ("+", ("a", 2), ("b", 2))), ("+", ("a", 1), ("b", 1))),
            (("+", ("b", 1), ("+", ("&", ("b", 2), ("a", 2)), ("a", 1))),
             ("+", ("+", ("a", 1), ("&", ("a", 2), ("b", 2))), ("b", 1))),
        ):
            self.assertTrue(is_like(plain_chain_word(word, 2, 2), form), word)

    def test_all_forms(self):
        for first, second in SIZES:
            told = plain_chain_words(first, second)
            self.assertIs(iter(told), told)
            forms = list(told)
            self.assertEqual(len(forms), comb(first + second + 2, first + 1))
            self.assertEqual(len(set(forms)), len(forms))
            self.assertEqual(len({cells_in(form, first, second) for form in forms}), len(forms))
            self.assertTrue({("0",), ("1",), ("a", first), ("b", second)} <= set(forms))
            for form in forms:
                self.assertTrue(is_like(plain_chain_word(form, first, second), form))

    def test_each_word_has_one_of_the_forms(self):
        random = Random(253)
        for first, second in ((1, 1), (1, 2), (2, 2), (3, 2)):
            forms = set(plain_chain_words(first=first, second=second))
            found = set()
            for at in range(300):
                told = plain_chain_word(drawn_chain_word(random, 1 + at % 9, first, second), first, second)
                self.assertIn(told, forms)
                found.add(told)
            self.assertGreater(len(found), 5)


if __name__ == "__main__":
    unittest.main()

"""Values of words in triples, and the main statements."""

import unittest
from itertools import product
from random import Random

from brute import all_spans, tree_value
from drawn import KINDS, PRIMES, drawn_numbers, drawn_triple, drawn_word, made, mixed_triple
from trees import all_trees, drawn_tree

from handspaces.classes import below, breach, parting, same
from handspaces.pieces import nine_numbers
from handspaces.spaces import Space
from handspaces.triples import Triple, kind_triple, triple_of, value
from handspaces.words import Word

ORDERS = ("abc", "acb", "bac", "bca", "cab", "cba")
SMALL = ((2, 0), (2, 1), (2, 3), (3, 2), (5, 2), (7, 2), (11, 1), (13, 1))


def sets_of(triple):
    return {hand: frozenset(triple[hand].vectors()) for hand in "abc"}


class Value(unittest.TestCase):
    def check(self, tree, triple):
        told = value(made(tree), triple)
        self.assertEqual((told.prime, told.length), (triple.prime, triple.length))
        expected = tree_value(triple.prime, triple.length, tree, sets_of(triple))
        self.assertEqual(frozenset(told.vectors()), expected)

    def test_letters_zero_and_one(self):
        random = Random(30)
        for prime in PRIMES:
            for length in (0, 1, 5, 12):
                triple = drawn_triple(random, prime, length)
                for hand in "abc":
                    self.assertEqual(value(Word(hand), triple), triple[hand])
                self.assertEqual(value(Word("0"), triple), Space.nothing(prime, length))
                self.assertEqual(value(Word("1"), triple), Space.whole(prime, length))

    def test_small_words_in_all_triples_of_length_two(self):
        trees = [tree for many in (1, 2) for tree in all_trees(many, "abc01")]
        trees += [("&", "a", ("+", "b", "c")), ("+", ("&", "a", "b"), "c"), ("&", ("+", "a", "b"), ("+", "a", "c"))]
        for sets in product(all_spans(2, 2), repeat=3):
            triple = Triple(*[Space(2, 2, sorted(vectors)) for vectors in sets])
            for tree in trees:
                self.check(tree, triple)

    def test_drawn_words_in_drawn_triples(self):
        random = Random(31)
        for prime, length in SMALL:
            for _ in range(40):
                self.check(drawn_tree(random, random.randrange(1, 8)), drawn_triple(random, prime, length))

    def test_24_letters(self):
        random = Random(32)
        for prime, length in SMALL:
            self.check(drawn_tree(random, 24, "abc"), drawn_triple(random, prime, length))

    def test_lengths_up_to_12(self):
        random = Random(33)
        for at in range(120):
            triple = drawn_triple(random, PRIMES[at % 6], at % 13)
            a, b, c = triple.a, triple.b, triple.c
            for text, expected in (
                ("a + b", a + b), ("a & b", a & b), ("a & (b + c)", a & (b + c)), ("a & b + c", (a & b) + c),
                ("(a + 0) & (b & 1)", a & b), ("a + b + c", a + b + c), ("c & b & a", a & b & c),
            ):
                self.assertEqual(value(word=Word.read(text), triple=triple), expected)

    def test_other_letters_and_other_hands(self):
        random = Random(34)
        for at in range(80):
            triple = drawn_triple(random, PRIMES[at % 6], random.randrange(13))
            word = drawn_word(random)
            for order in ORDERS:
                self.assertEqual(value(word.swapped(order), triple), value(word, triple.swapped(order)))

    def test_beside(self):
        random = Random(35)
        for at in range(60):
            prime = PRIMES[at % 6]
            one, other = [drawn_triple(random, prime, random.randrange(7)) for _ in range(2)]
            word = drawn_word(random)
            told = value(word, one.beside(other))
            self.assertEqual(len(told), len(value(word, one)) + len(value(word, other)))
            for row in value(word, one).basis():
                self.assertIn(row + (0,) * other.length, told)
            for row in value(word, other).basis():
                self.assertIn((0,) * one.length + row, told)

    def test_arguments_stay(self):
        random = Random(36)
        for _ in range(20):
            triple, word = drawn_triple(random, 5, 4), drawn_word(random)
            before = word.text(), [triple[hand].text() for hand in "abc"]
            value(word, triple)
            self.assertEqual((word.text(), [triple[hand].text() for hand in "abc"]), before)


class MainStatements(unittest.TestCase):
    """What is told of two words holds in each triple, and a kind that is told shows what does not."""

    def test_no_kind_depends_on_the_prime(self):
        random = Random(37)
        for _ in range(60):
            one, other = drawn_word(random), drawn_word(random)
            for kind in KINDS:
                triples = [kind_triple(prime, kind) for prime in PRIMES]
                for holds in ([value(one, triple) == value(other, triple) for triple in triples],
                              [value(one, triple) <= value(other, triple) for triple in triples]):
                    self.assertEqual(len(set(holds)), 1)

    def check(self, one, other, triples):
        if same(one, other):
            for triple in triples:
                self.assertEqual(value(one, triple), value(other, triple))
        else:
            for prime in PRIMES:
                triple = kind_triple(prime, parting(one, other))
                self.assertNotEqual(value(one, triple), value(other, triple))
        if below(one, other):
            for triple in triples:
                self.assertLessEqual(value(one, triple), value(other, triple))
        else:
            for prime in PRIMES:
                triple = kind_triple(prime, breach(one, other))
                self.assertFalse(value(one, triple) <= value(other, triple))

    def test_drawn_words_and_triples(self):
        random = Random(38)
        triples = [drawn_triple(random, PRIMES[at % 6], at % 9) for at in range(36)]
        triples += [mixed_triple(random, prime, dict.fromkeys(KINDS, 1)) for prime in PRIMES]
        for _ in range(150):
            self.check(drawn_word(random, 5), drawn_word(random, 5), triples)

    def test_telling_triples(self):
        # A triple with all nine kinds tells any two words apart that are not the same.
        random = Random(39)
        for at in range(300):
            triple = mixed_triple(random, PRIMES[at % 6], dict.fromkeys(KINDS, 1))
            one, other = drawn_word(random, 6), drawn_word(random, 6)
            self.assertEqual(same(one, other), value(one, triple) == value(other, triple))
            self.assertEqual(below(one, other), value(one, triple) <= value(other, triple))

    def test_dimension_is_the_sum_over_the_kinds(self):
        random = Random(40)
        for at in range(100):
            triple, word = drawn_triple(random, PRIMES[at % 6], at % 13), drawn_word(random)
            numbers = nine_numbers(triple)
            parts = [many * len(value(word, kind_triple(triple.prime, kind))) for kind, many in numbers.items()]
            self.assertEqual(len(value(word, triple)), sum(parts))
            told = triple_of(triple.prime, numbers)
            self.assertEqual(len(value(word, triple)), len(value(word, told)))

    def test_a_further_dimension_changes_the_numbers_in_one_of_six_ways(self):
        random = Random(41)
        ways = {}
        for at in range(400):
            triple = drawn_triple(random, PRIMES[at % 3], 1 + at % 6)
            vector = [random.randrange(triple.prime) for _ in range(triple.length)]
            if vector in triple.a:
                continue
            more = triple.changed("a", Space(triple.prime, triple.length, triple.a.basis() + [vector]))
            before, after = nine_numbers(triple), nine_numbers(more)
            change = tuple(after[kind] - before[kind] for kind in KINDS)
            ways[change] = True
        self.assertEqual(len(ways), 6)

    def test_numbers_of_drawn_matrices(self):
        random = Random(42)
        for at in range(40):
            numbers = drawn_numbers(random, at % 13)
            self.assertEqual(nine_numbers(mixed_triple(random, PRIMES[at % 6], numbers)), numbers)


if __name__ == "__main__":
    unittest.main()

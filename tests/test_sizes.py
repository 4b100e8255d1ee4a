import unittest
from random import Random

from brute import dimension, tree_value
from drawn import (
    KINDS, PRIMES, drawn_numbers, drawn_terms, drawn_triple, drawn_word, made, made_terms, mixed_triple, some_trees)
from onkinds import dimensions, sums
from trees import drawn_tree
from values import ANY_VALUES, is_like, is_one_of

from handspaces.errors import BadNumbers, NoKind
from handspaces.pieces import nine_numbers
from handspaces.sizes import Claim, coefficients, holds, number_claim, refuting
from handspaces.spaces import Space
from handspaces.triples import kind_triple, triple_of, value
from handspaces.words import Word

A, B, C = Word("a"), Word("b"), Word("c")


def claim_of(terms):
    return Claim(made_terms(terms))


class Coefficients(unittest.TestCase):
    def test_against_the_nine_triples(self):
        for tree in some_trees(Random(100), 300):
            word = made(tree)
            before = word.text()
            told = coefficients(word)
            self.assertEqual(list(told.items()), list(dimensions(tree).items()))
            self.assertTrue(all(type(many) is int for many in told.values()))
            self.assertEqual(word.text(), before)

    def test_every_prime(self):
        random = Random(101)
        for _ in range(40):
            word = drawn_word(random)
            for prime in PRIMES:
                told = {kind: len(value(word, kind_triple(prime, kind))) for kind in KINDS}
                self.assertEqual(coefficients(word=word), told)

    def test_dimension_in_mixed_and_drawn_triples(self):
        random = Random(102)
        for at in range(150):
            prime, word = PRIMES[at % 6], drawn_word(random, 24 if at % 5 == 0 else 6)
            told = coefficients(word)
            for triple in (drawn_triple(random, prime, at % 13), mixed_triple(random, prime, drawn_numbers(random, 7))):
                numbers = nine_numbers(triple)
                self.assertEqual(len(value(word, triple)), sum(numbers[kind] * told[kind] for kind in KINDS))

    def test_told_ones(self):
        self.assertEqual(coefficients(Word("1")), dict.fromkeys(KINDS, 1) | {"plane": 2})
        self.assertEqual(coefficients(Word("0")), dict.fromkeys(KINDS, 0))
        self.assertEqual(coefficients(Word.read("b + c")), {
            "": 0, "a": 0, "b": 1, "c": 1, "ab": 1, "ac": 1, "bc": 1, "abc": 1, "plane": 2})
        self.assertEqual(coefficients(Word.read("c & (a + b)"))["plane"], 1)

    def test_new_dicts(self):
        told = coefficients(A)
        kept = dict(told)
        told.clear()
        self.assertEqual(coefficients(A), kept)


class Terms(unittest.TestCase):
    def test_a_tuple(self):
        terms = [(2, A), (-3, B + C), (0, Word("1"))]
        for told in (Claim(terms), Claim(tuple(terms)), Claim(terms=terms)):
            self.assertIs(type(told.terms), tuple)
            self.assertEqual(told.terms, ((2, A), (-3, B + C), (0, Word("1"))))
            self.assertTrue(all(type(term) is tuple for term in told.terms))
        self.assertEqual(Claim([]).terms, ())
        self.assertEqual(Claim(()).terms, ())

    def test_later_changes_of_the_list(self):
        terms = [(1, A), (-1, B)]
        claim = Claim(terms)
        terms[0] = (5, C)
        terms.append((1, C))
        self.assertEqual(claim.terms, ((1, A), (-1, B)))
        self.assertEqual(claim.total({"a": 2, "b": 1, "c": 7}), 1)

    def test_the_list_stays(self):
        terms = [(1, A), (-1, B)]
        claim = Claim(terms)
        claim.on_kinds(), claim.total({}), claim * 3, -claim, claim + claim, claim.text()
        self.assertEqual(terms, [(1, A), (-1, B)])

    def test_terms_cannot_be_assigned(self):
        claim = Claim([(1, A)])
        with self.assertRaises(AttributeError):
            claim.terms = ()
        self.assertEqual(claim.terms, ((1, A),))


class Sums(unittest.TestCase):
    def counted(self, terms, triple):
        """The sum of terms in a triple, by sets of vectors."""
        spaces = {hand: frozenset(triple[hand].vectors()) for hand in "abc"}
        return sum(number * dimension(triple.prime, tree_value(triple.prime, triple.length, tree, spaces))
                   for number, tree in terms)

    def test_on_against_counted_vectors(self):
        random = Random(103)
        for prime, length in ((2, 0), (2, 1), (2, 3), (3, 2), (5, 2), (7, 1), (13, 1)):
            for _ in range(25):
                triple, terms = drawn_triple(random, prime, length), drawn_terms(random)
                told = claim_of(terms).on(triple)
                self.assertIs(type(told), int)
                self.assertEqual(told, self.counted(terms, triple))

    def test_on_total_and_on_kinds_against_one_another(self):
        random = Random(104)
        for at in range(150):
            prime, terms = PRIMES[at % 6], drawn_terms(random, 8, 8, 10 ** (at % 30))
            claim, triple = claim_of(terms), drawn_triple(random, prime, at % 13)
            numbers, told = nine_numbers(triple), claim.on_kinds()
            self.assertEqual(claim.on(triple=triple), sum(many * told[kind] for kind, many in numbers.items()))
            self.assertEqual(claim.total(numbers=numbers), claim.on(triple))
            self.assertEqual(list(told.items()), list(sums(terms).items()))
            self.assertTrue(all(type(number) is int for number in told.values()))
            for kind in KINDS:
                self.assertEqual(claim.on(kind_triple(prime, kind)), told[kind])
                self.assertEqual(claim.total({kind: 1}), told[kind])

    def test_numbers_with_kinds_left_out(self):
        random = Random(105)
        for _ in range(100):
            terms = drawn_terms(random)
            few = {kind: random.randrange(21) for kind in random.sample(KINDS, random.randrange(10))}
            kept, table = list(few.items()), sums(terms)
            self.assertEqual(claim_of(terms).total(few), sum(many * table[kind] for kind, many in few.items()))
            self.assertEqual(list(few.items()), kept)
        self.assertEqual(Claim([(7, A)]).total({}), 0)
        self.assertEqual(Claim([]).total({"a": 20}), 0)

    def test_bad_numbers(self):
        for claim in (Claim([]), Claim([(1, A), (-2, B & C)]), Claim([(0, A)])):
            for key in [None, True, False, 0, (), ("a",), "d", "ba", "cb", "Plane", " "]:
                for numbers in ({key: 0}, {key: 1}, {"a": 1, key: 2}):
                    with self.assertRaises(BadNumbers):
                        claim.total(numbers)
            for many in (-1, -20, True, False, None, "1", "", [1], [], (), {}, {"a": 1}):
                for kind in KINDS:
                    numbers = {"": 20, kind: many}
                    with self.assertRaises(BadNumbers):
                        claim.total(numbers)
                    self.assertTrue(is_like(numbers, {"": 20, kind: many}))

    def test_without_terms(self):
        for prime in PRIMES:
            self.assertEqual(Claim([]).on(triple_of(prime, {"a": 2, "plane": 1})), 0)
        self.assertEqual(Claim([]).on_kinds(), dict.fromkeys(KINDS, 0))

    def test_new_dicts(self):
        claim = Claim([(2, A + B)])
        told = claim.on_kinds()
        kept = dict(told)
        told["a"] = 9
        told.pop("plane")
        self.assertEqual(claim.on_kinds(), kept)


class Equality(unittest.TestCase):
    def test_exactly_if_the_sums_on_all_kinds_are(self):
        random = Random(106)
        told = [drawn_terms(random, 3, 2, 1) for _ in range(90)]
        found = {True: 0, False: 0}
        for one in told:
            for other in told:
                equal = sums(one) == sums(other)
                self.assertIs(claim_of(one) == claim_of(other), equal)
                self.assertIs(claim_of(one) != claim_of(other), not equal)
                found[equal] += 1
        self.assertGreater(min(found.values()), 200)

    def test_unlike_terms(self):
        for one, other in (
            ("1 |a|, 1 |b|", "1 |a + b|, 1 |a & b|"), ("1 |a|", "1 |a & (a + b)|"), ("", "0 |1|"),
            ("", "1 |a|, -1 |a|"), ("", "7 |0|"), ("3 |a|, -3 |a|, 1 |b|", "1 |b|"), ("1 |a|, 1 |b|", "1 |b|, 1 |a|"),
            ("2 |a & b|", "1 |a & b|, 1 |b & a|"), ("1 |a & (b + c)|, -1 |a & b + a & c|",
                                                    "1 |b & (a + c)|, -1 |a & b + b & c|"),
        ):
            self.assertTrue(Claim.read(one) == Claim.read(other), (one, other))
            self.assertFalse(Claim.read(one) != Claim.read(other))
        for one, other in (("1 |a|", "1 |b|"), ("1 |a|", "2 |a|"), ("", "1 |1|"), ("1 |a|", "-1 |a|"),
                           ("1 |a & (b + c)|", "1 |a & b + a & c|"), ("1 |1|", "1 |a + b + c|")):
            self.assertFalse(Claim.read(one) == Claim.read(other), (one, other))
            self.assertTrue(Claim.read(one) != Claim.read(other))

    def test_other_classes(self):
        for claim in (Claim([]), Claim([(1, A)])):
            for other in [*ANY_VALUES, A, Space(2, 1), claim.terms, claim.on_kinds(), claim.text(), object()]:
                self.assertFalse(claim == other)
                self.assertTrue(claim != other)
                self.assertFalse(other == claim)


class Operators(unittest.TestCase):
    def check(self, claim, expected, triple):
        self.assertIs(type(claim), Claim)
        self.assertEqual(claim.on_kinds(), expected)
        self.assertEqual(sum(number * len(value(word, triple)) for number, word in claim.terms), claim.on(triple))
        numbers = nine_numbers(triple)
        self.assertEqual(claim.on(triple), sum(numbers[kind] * expected[kind] for kind in KINDS))
        self.assertEqual(claim, Claim(claim.terms))

    def test_sum_difference_opposite_multiple(self):
        random = Random(107)
        for at in range(120):
            terms, more = drawn_terms(random), drawn_terms(random)
            one, other = claim_of(terms), claim_of(more)
            x, y = sums(terms), sums(more)
            triple = drawn_triple(random, PRIMES[at % 6], at % 9)
            self.check(one + other, {kind: x[kind] + y[kind] for kind in KINDS}, triple)
            self.check(one - other, {kind: x[kind] - y[kind] for kind in KINDS}, triple)
            self.check(-one, {kind: -x[kind] for kind in KINDS}, triple)
            for number in (0, 1, -1, 2, -7, 10 ** 40, -10 ** 40, random.randrange(-50, 50)):
                self.check(one * number, {kind: number * x[kind] for kind in KINDS}, triple)
            self.assertEqual((one.terms, other.terms), (tuple(made_terms(terms)), tuple(made_terms(more))))

    def test_laws(self):
        random = Random(108)
        for _ in range(40):
            one, other = claim_of(drawn_terms(random)), claim_of(drawn_terms(random))
            self.assertEqual(one + other, other + one)
            self.assertEqual(one - other, one + -other)
            self.assertEqual(one - one, Claim([]))
            self.assertEqual(--one, one)
            self.assertEqual(one * 3, one + one + one)
            self.assertEqual(one * 0, Claim([]))
            self.assertEqual((one + other) * -2, one * -2 - other - other)
            self.assertEqual(Claim([]) + one, one)
            self.assertEqual(-Claim([]), Claim([]))


class Holds(unittest.TestCase):
    def check(self, terms):
        told = sums(terms)
        below = [kind for kind in KINDS if told[kind] < 0]
        claim = claim_of(terms)
        self.assertEqual(refuting(claim), below[0] if below else None)
        self.assertIs(holds(claim), not below)
        if below:
            self.assertLess(claim.on(kind_triple(5, refuting(claim))), 0)
        self.assertEqual(claim.terms, tuple(made_terms(terms)))
        return not below

    def test_drawn_claims(self):
        random = Random(109)
        found = [self.check(drawn_terms(random, 4, 3, 2)) for _ in range(500)]
        found += [self.check(drawn_terms(random, 8, 24, 10 ** 6)) for _ in range(60)]
        self.assertGreater(sum(found), 40)
        self.assertGreater(len(found) - sum(found), 40)

    def test_the_first_kind(self):
        for text, kind in (
            ("-1 |1|", ""), ("-1 |a|", "a"), ("-1 |b|", "b"), ("-1 |c|", "c"), ("-1 |b|, -1 |a|", "a"),
            ("-1 |a & b|", "ab"), ("-1 |a & c|", "ac"), ("-1 |b & c|", "bc"), ("-1 |a & b & c|", "abc"),
            ("1 |a & b + a & c|, -1 |a & (b + c)|", "plane"), ("1 |a|, -1 |b|", "b"), ("1 |b|, -1 |a|, -1 |1|", ""),
        ):
            self.assertEqual(refuting(claim=Claim.read(text)), kind)
            self.assertIs(holds(claim=Claim.read(text)), False)
        for text in ("", "0 |a|", "1 |1|, -1 |a|", "5 |0|", "-5 |0|", "1 |a + b|, -1 |a|", "1 |a|, -1 |a|"):
            self.assertIsNone(refuting(Claim.read(text)))
            self.assertIs(holds(Claim.read(text)), True)

    def test_claims_that_hold_are_so_in_drawn_triples(self):
        random = Random(110)
        triples = [drawn_triple(random, PRIMES[at % 6], at % 9) for at in range(54)]
        for _ in range(150):
            claim = claim_of(drawn_terms(random, 3, 3, 2))
            if holds(claim):
                self.assertTrue(all(claim.on(triple) >= 0 for triple in triples))


class NumberClaims(unittest.TestCase):
    def test_of_each_kind(self):
        random = Random(111)
        for kind in KINDS:
            claim = number_claim(kind)
            self.assertIs(type(claim), Claim)
            self.assertIn(len(claim.terms), (1, 2))
            self.assertEqual(number_claim(kind=kind), claim)
            self.assertEqual(claim.on_kinds(), dict.fromkeys(KINDS, 0) | {kind: 1})
            self.assertTrue(holds(claim))
            for at in range(24):
                numbers = drawn_numbers(random, at % 13)
                for triple in (triple_of(PRIMES[at % 6], numbers), mixed_triple(random, PRIMES[at % 6], numbers)):
                    self.assertEqual(claim.on(triple), numbers[kind])
                self.assertEqual(claim.total(numbers), numbers[kind])

    def test_no_kind(self):
        for told in ANY_VALUES:
            if is_one_of(told, KINDS):
                continue
            with self.subTest(told=told):
                with self.assertRaises(NoKind) as caught:
                    number_claim(told)
                self.assertTrue(is_like(caught.exception.kind, told))


class Words24(unittest.TestCase):
    def test_claims_with_long_words(self):
        random = Random(112)
        for at in range(30):
            terms = [(random.randrange(-9, 10), drawn_tree(random, 24, "abc01")) for _ in range(8)]
            triple = drawn_triple(random, PRIMES[at % 6], at % 13)
            expected = sums(terms)
            numbers = nine_numbers(triple)
            self.assertEqual(claim_of(terms).on(triple), sum(numbers[kind] * expected[kind] for kind in KINDS))


if __name__ == "__main__":
    unittest.main()

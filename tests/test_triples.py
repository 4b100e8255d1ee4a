import unittest
from itertools import product
from random import Random

from brute import all_spans, all_vectors, span
from drawn import KINDS, PRIMES, drawn_numbers, drawn_space, drawn_triple, hand_rows
from values import ANY_VALUES, is_like, is_one_of

from handspaces import triples
from handspaces.errors import BadNumbers, BadOrder, BadPrime, NoHand, NoKind, TooGreat, UnlikeSpaces
from handspaces.spaces import Space
from handspaces.triples import Triple, kind_triple, triple_of

HANDS = ("a", "b", "c")
ORDERS = ("abc", "acb", "bac", "bca", "cab", "cba")
NO_PRIMES = [None, True, False, 0, 1, -2, 4, 17, "2", "", "plane", [2], (2,), {2: 2}]


def some_triples(random, many):
    """Drawn triples of each prime and of the lengths 0 to 12."""
    return [drawn_triple(random, PRIMES[at % 6], at % 13) for at in range(many)]


def unlike_spaces(space):
    """Spaces of another prime, of another length, and of both."""
    prime = 3 if space.prime == 2 else 2
    length = space.length - 1 if space.length == 12 else space.length + 1
    return [Space(prime, space.length), Space(space.prime, length), Space.whole(prime, length)]


def told_text(triple):
    return [triple[hand].text() for hand in HANDS]


class Triples(unittest.TestCase):
    def test_attributes(self):
        random = Random(20)
        for prime in PRIMES:
            for length in (0, 1, 4, 12):
                a, b, c = [drawn_space(random, prime, length) for _ in HANDS]
                for triple in (Triple(a, b, c), Triple(c=c, a=a, b=b)):
                    self.assertEqual((triple.a, triple.b, triple.c), (a, b, c))
                    self.assertEqual((triple["a"], triple["b"], triple["c"]), (a, b, c))
                    self.assertEqual((triple.prime, triple.length), (prime, length))

    def test_attributes_cannot_be_assigned(self):
        triple = kind_triple(3, "ab")
        for name in ("a", "b", "c", "prime", "length"):
            with self.assertRaises(AttributeError):
                setattr(triple, name, Space(3, 1))
        with self.assertRaises(TypeError):
            triple["a"] = Space(3, 1)
        self.assertEqual(told_text(triple), ["3 1; 1", "3 1; 1", "3 1"])

    def test_no_hand(self):
        triple = kind_triple(5, "plane")
        for value in ANY_VALUES:
            if is_one_of(value, HANDS):
                continue
            with self.subTest(value=value):
                with self.assertRaises(NoHand) as caught:
                    triple[value]
                self.assertTrue(is_like(caught.exception.hand, value))
                for space in (triple.a, Space(3, 2), Space(5, 1)):
                    with self.assertRaises(NoHand) as caught:
                        triple.changed(value, space)
                    self.assertTrue(is_like(caught.exception.hand, value))

    def test_unlike_spaces(self):
        for prime, length in product((2, 7), (0, 3, 12)):
            space = Space.whole(prime, length)
            for unlike in unlike_spaces(space):
                for row in ((unlike, space, space), (space, unlike, space), (space, space, unlike)):
                    with self.assertRaises(UnlikeSpaces):
                        Triple(*row)
                triple = Triple(space, space, space)
                for hand in HANDS:
                    with self.assertRaises(UnlikeSpaces):
                        triple.changed(hand, unlike)
                self.assertEqual(triple, Triple(space, space, space))

    def test_equality(self):
        spaces = [Space(2, 2, rows) for rows in ([], [(1, 0)], [(0, 1)], [(1, 1)], [(1, 0), (0, 1)])]
        rows = list(product(range(5), repeat=3))
        for one in rows[::11]:
            for other in rows:
                same = Triple(*[spaces[at] for at in one]) == Triple(*[spaces[at] for at in other])
                self.assertEqual(same, one == other)

    def test_equality_with_something_else(self):
        triple = triple_of(2, {})
        for other in [*ANY_VALUES, Space(2, 0), [triple.a] * 3, (triple.a,) * 3, object()]:
            self.assertFalse(triple == other)
            self.assertTrue(triple != other)
        self.assertNotEqual(triple, triple_of(3, {}))
        self.assertNotEqual(triple, triple_of(2, {"": 1}))
        self.assertEqual(triple, triple_of(2, {}))

    def test_changed(self):
        random = Random(21)
        for triple in some_triples(random, 60):
            before = told_text(triple)
            for at, hand in enumerate(HANDS):
                space = drawn_space(random, triple.prime, triple.length)
                expected = list(before)
                expected[at] = space.text()
                self.assertEqual(told_text(triple.changed(hand, space)), expected)
                self.assertEqual(triple.changed(space=space, hand=hand), triple.changed(hand, space))
            self.assertEqual(told_text(triple), before)

    def test_swapped(self):
        for triple in some_triples(Random(22), 60):
            before = told_text(triple)
            for order in ORDERS:
                told = triple.swapped(order)
                self.assertEqual([told.a, told.b, told.c], [triple[hand] for hand in order])
                self.assertEqual(triple.swapped(order=order), told)
            self.assertEqual(told_text(triple), before)

    def test_values_that_are_no_orders(self):
        triple = kind_triple(2, "abc")
        for value in ANY_VALUES:
            if not is_one_of(value, ORDERS):
                with self.subTest(value=value):
                    with self.assertRaises(BadOrder) as caught:
                        triple.swapped(value)
                    self.assertTrue(is_like(caught.exception.order, value))


class Beside(unittest.TestCase):
    def test_against_all_vectors(self):
        sizes = ((2, 2, 3), (2, 0, 3), (3, 2, 2), (3, 1, 0), (5, 1, 2), (7, 1, 1), (13, 1, 1), (11, 0, 0))
        for prime, first, second in sizes:
            random = Random(prime)
            for _ in range(12):
                one, other = drawn_triple(random, prime, first), drawn_triple(random, prime, second)
                before = told_text(one), told_text(other)
                told = one.beside(other)
                self.assertEqual(told, one.beside(other=other))
                self.assertEqual((told.prime, told.length), (prime, first + second))
                for hand in HANDS:
                    expected = {x + y for x in one[hand].vectors() for y in other[hand].vectors()}
                    self.assertEqual(set(told[hand].vectors()), expected)
                self.assertEqual((told_text(one), told_text(other)), before)

    def test_unlike_primes(self):
        for one, other in product(PRIMES, repeat=2):
            for first, second in ((0, 0), (1, 1), (7, 7), (12, 1)):
                if one != other:
                    with self.assertRaises(UnlikeSpaces):
                        triple_of(one, {"a": first}).beside(triple_of(other, {"": second}))

    def test_too_great(self):
        for first, second in ((12, 1), (1, 12), (7, 6), (12, 12)):
            with self.assertRaises(TooGreat) as caught:
                triple_of(3, {"ab": first}).beside(triple_of(3, {"c": second}))
            self.assertEqual(caught.exception.told, first + second)
        for first, second in ((12, 0), (0, 12), (5, 7)):
            triple = triple_of(3, {"ab": first}).beside(triple_of(3, {"c": second}))
            self.assertEqual((triple.length, len(triple.a), len(triple.c)), (12, first, second))


class Kinds(unittest.TestCase):
    def test_the_nine(self):
        self.assertEqual(triples.KINDS, KINDS)
        self.assertIs(type(triples.KINDS), tuple)

    def test_lines(self):
        for prime in PRIMES:
            for kind in KINDS[:8]:
                triple = kind_triple(prime, kind)
                self.assertEqual((triple.prime, triple.length), (prime, 1))
                for hand in HANDS:
                    expected = Space.whole(prime, 1) if hand in kind else Space.nothing(prime, 1)
                    self.assertEqual(triple[hand], expected)

    def test_plane(self):
        for prime in PRIMES:
            triple = kind_triple(kind="plane", prime=prime)
            self.assertEqual((triple.prime, triple.length), (prime, 2))
            self.assertEqual([triple[hand].basis() for hand in HANDS], [[(1, 0)], [(0, 1)], [(1, 1)]])

    def test_errors(self):
        for value in ANY_VALUES:
            if not is_one_of(value, KINDS):
                with self.subTest(value=value):
                    with self.assertRaises(NoKind) as caught:
                        kind_triple(2, value)
                    self.assertTrue(is_like(caught.exception.kind, value))
        for prime in NO_PRIMES:
            for kind in ("a", "plane", "no", None, []):
                with self.assertRaises(BadPrime) as caught:
                    kind_triple(prime, kind)
                self.assertTrue(is_like(caught.exception.told, prime))


class TripleOf(unittest.TestCase):
    def check(self, prime, numbers):
        kept = dict(numbers)
        triple = triple_of(prime, numbers)
        self.assertEqual(list(numbers.items()), list(kept.items()))
        length, rows = hand_rows(numbers)
        self.assertEqual((triple.prime, triple.length), (prime, length))
        for hand in HANDS:
            self.assertEqual(triple[hand], Space(prime, length, rows[hand]))
        return triple

    def test_each_number_of_pieces(self):
        random = Random(23)
        for prime in PRIMES:
            for length in range(13):
                for _ in range(4):
                    numbers = drawn_numbers(random, length)
                    expected = self.check(prime, numbers)
                    few = [(kind, many) for kind, many in numbers.items() if many > 0]
                    random.shuffle(few)
                    self.assertEqual(self.check(prime, dict(few)), expected)

    def test_kinds_beside_one_another(self):
        random = Random(24)
        for _ in range(30):
            numbers = drawn_numbers(random, random.randrange(8))
            told = triple_of(3, {})
            for kind in KINDS:
                for _ in range(numbers[kind]):
                    told = told.beside(kind_triple(3, kind))
            self.assertEqual(triple_of(3, numbers), told)

    def test_edges(self):
        for prime in PRIMES:
            empty = self.check(prime, {})
            self.assertEqual((empty.length, len(empty.a)), (0, 0))
            self.assertEqual(self.check(prime, dict.fromkeys(KINDS, 0)), empty)
            self.check(prime, {"plane": 6})
            self.check(prime, {"abc": 12})
            self.check(prime, dict.fromkeys(KINDS, 1))
            for kind in KINDS:
                self.assertEqual(self.check(prime, {kind: 1}), kind_triple(prime, kind))

    def test_bad_prime_comes_first(self):
        for prime in NO_PRIMES:
            for numbers in ({}, {"a": 1}, {"no": 1}, {"a": -1}, {"a": 13}):
                with self.assertRaises(BadPrime) as caught:
                    triple_of(prime, numbers)
                self.assertTrue(is_like(caught.exception.told, prime))

    def test_bad_numbers(self):
        keys = [None, True, False, 0, 1, -3, (), ("a",), ("a", "b"), "A", "d", "ba", "cb", "acb", "aa", " ", "Plane"]
        for key in keys:
            for many in (0, 1, 13):
                for numbers in ({key: many}, {"a": 1, key: many}, {key: many, "plane": 1}, {"b": 13, key: many}):
                    with self.assertRaises(BadNumbers):
                        triple_of(2, numbers)
        for many in (-1, -20, True, False, None, "1", "", [1], [], (), (1,), {}, {"a": 1}):
            for kind in KINDS:
                for numbers in ({kind: many}, {"": 20, kind: many}, {kind: many, "no": 1}):
                    kept = dict(numbers)
                    with self.assertRaises(BadNumbers):
                        triple_of(2, numbers)
                    self.assertEqual(numbers, kept)

    def test_too_great(self):
        for numbers, length in (
            ({"a": 13}, 13), ({"": 12, "abc": 1}, 13), ({"plane": 7}, 14), ({"plane": 6, "c": 1}, 13),
            ({"plane": 20, "ab": 20}, 60), (dict.fromkeys(KINDS, 20), 200), ({"a": 10 ** 29}, 10 ** 29),
        ):
            with self.assertRaises(TooGreat) as caught:
                triple_of(13, numbers)
            self.assertEqual(caught.exception.told, length)
        self.assertEqual(triple_of(prime=13, numbers={"plane": 5, "ac": 2}).length, 12)


class AllTriples(unittest.TestCase):
    def test_vectors_of_all_triples_of_length_two(self):
        spans = all_spans(2, 2)
        self.assertEqual(len(spans), 5)
        for sets in product(spans, repeat=3):
            triple = Triple(*[Space(2, 2, sorted(vectors)) for vectors in sets])
            for hand, vectors in zip(HANDS, sets):
                self.assertEqual({vector for vector in all_vectors(2, 2) if vector in triple[hand]}, vectors)
                self.assertEqual(span(2, 2, triple[hand].basis()), vectors)


if __name__ == "__main__":
    unittest.main()

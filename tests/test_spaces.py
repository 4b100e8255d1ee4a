import unittest
from copy import deepcopy
from itertools import islice
from random import Random

from brute import all_spans, all_vectors, dimension, span
from handspaces.errors import BadLength, BadPrime, BadVector, UnlikeSpaces
from handspaces.spaces import Space

PRIMES = (2, 3, 5, 7, 11, 13)
NO_PRIMES = [None, True, False, 0, 1, -2, 4, 17, 10 ** 30, "2", "", [2], (2,), {2: 2}, {}]
NO_LENGTHS = [None, True, False, -1, 13, 10 ** 30, "1", "", [1], (1,), {1: 1}, {}]
NO_VECTORS_OF_TWO = [
    None, True, 2, "12", "", {}, {0: 1, 1: 2}, [], (), [1], (1, 2, 3), [1, None], [True, 1], (0, False),
    ("1", 2), [[1], 2], ((1, 2),), [(1, 2), (3, 4)], [1, {}],
]


def some_vectors(random, prime, length, many):
    return [tuple(random.randrange(-2 * prime, 2 * prime) for _ in range(length)) for _ in range(many)]


class Creation(unittest.TestCase):
    def test_spans_what_was_passed(self):
        random = Random(1)
        for prime, length in ((2, 4), (3, 3), (5, 2), (7, 2), (11, 2), (13, 1), (2, 0)):
            for many in range(5):
                vectors = some_vectors(random, prime, length, many)
                space = Space(prime, length, vectors)
                self.assertEqual(set(space.vectors()), span(prime, length, vectors))
                self.assertEqual((space.prime, space.length), (prime, length))

    def test_bad_prime(self):
        for told in NO_PRIMES:
            for make in (Space, Space.nothing, Space.whole):
                for length in (2, -1, None):
                    with self.subTest(told=told, make=make, length=length):
                        with self.assertRaises(BadPrime) as caught:
                            make(told, length)
                        self.assertEqual(caught.exception.told, told)
                        self.assertIs(type(caught.exception.told), type(told))

    def test_bad_length(self):
        for told in NO_LENGTHS:
            for make in (Space, Space.nothing, Space.whole):
                with self.subTest(told=told, make=make):
                    with self.assertRaises(BadLength) as caught:
                        make(3, told)
                    self.assertEqual(caught.exception.told, told)
                    self.assertIs(type(caught.exception.told), type(told))

    def test_order_of_errors(self):
        with self.assertRaises(BadPrime):
            Space(4, 13, ["no"])
        with self.assertRaises(BadLength):
            Space(3, 13, ["no"])

    def test_bad_vector(self):
        for told in NO_VECTORS_OF_TWO:
            with self.subTest(told=told):
                for vectors in ([told], (told,), [(1, 0), told, "later"], [[0, 1], told, [1], None]):
                    with self.assertRaises(BadVector) as caught:
                        Space(3, 2, vectors)
                    self.assertEqual(caught.exception.vector, told)
                    self.assertIs(type(caught.exception.vector), type(told))

    def test_no_vector_of_length_zero(self):
        for told in ([0], (0,), None, "", {}, 0):
            with self.assertRaises(BadVector) as caught:
                Space(3, 0, [(), [], told])
            self.assertEqual(caught.exception.vector, told)

    def test_lengths_at_the_limits(self):
        for prime in PRIMES:
            for space in (Space(prime, 0), Space.nothing(prime, 0), Space.whole(prime, 0), Space(prime, 0, [(), []])):
                self.assertEqual((space.length, len(space), space.basis()), (0, 0, []))
                self.assertEqual(list(space.vectors()), [()])
                self.assertIn((), space)
            units = [tuple(int(i == j) for j in range(12)) for i in range(12)]
            self.assertEqual(Space.whole(prime, 12).basis(), units)
            self.assertEqual(Space(prime, 12, reversed(units)), Space.whole(prime, 12))
            self.assertEqual(Space.nothing(prime, 12).basis(), [])

    def test_nothing_and_whole(self):
        for prime, length in ((2, 3), (3, 2), (5, 2), (13, 1)):
            self.assertEqual(list(Space.nothing(prime, length).vectors()), [(0,) * length])
            self.assertEqual(list(Space.whole(prime, length).vectors()), all_vectors(prime, length))
            self.assertEqual(Space(prime, length), Space.nothing(prime, length))

    def test_integers_are_taken_modulo_the_prime(self):
        for prime in PRIMES:
            far = prime * 10 ** 28
            one = Space(prime, 3, [(1 - prime, 5 * prime, -1), (far, 1 + far, 1 - far)])
            self.assertEqual(one, Space(prime, 3, [(1, 0, prime - 1), (0, 1, 1)]))
        great = [[10 ** 30 - 2 - 7 * i * j for j in range(12)] for i in range(12)]
        small = [[item % 13 for item in row] for row in great]
        self.assertEqual(Space(13, 12, great), Space(13, 12, small))
        self.assertEqual(len(Space(13, 12, great)), 2)

    def test_lists_and_tuples(self):
        told = Space(5, 2, [(1, 2)])
        for vectors in ([[1, 2]], ((1, 2),), ([1, 2],), [(2, 4), [1, 2]]):
            self.assertEqual(Space(5, 2, vectors), told)
        self.assertEqual(Space(5, 2, ()), Space(5, 2, []))

    def test_by_name(self):
        self.assertEqual(Space(vectors=[(1, 2)], length=2, prime=5), Space(5, 2, [(1, 2)]))
        self.assertEqual(Space(5, length=2), Space.nothing(length=2, prime=5))
        self.assertEqual(Space.whole(length=1, prime=2), Space(2, 1, [(1,)]))

    def test_later_changes_of_the_lists(self):
        vectors = [[1, 2, 3], [4, 5, 6]]
        kept = deepcopy(vectors)
        space = Space(7, 3, vectors)
        self.assertEqual(vectors, kept)
        text = space.text()
        vectors[0][0] = 5
        vectors[1].append(0)
        vectors.append([0, 0, 1])
        self.assertEqual(space.text(), text)
        self.assertEqual(space, Space(7, 3, kept))

    def test_arguments_stay_where_an_error_is_raised(self):
        vectors = [[8, 9], [1, None], "later"]
        kept = deepcopy(vectors)
        with self.assertRaises(BadVector):
            Space(7, 2, vectors)
        self.assertEqual(vectors, kept)

    def test_properties_cannot_be_assigned(self):
        space = Space(3, 2, [(1, 1)])
        with self.assertRaises(AttributeError):
            space.prime = 5
        with self.assertRaises(AttributeError):
            space.length = 3
        self.assertEqual(space.text(), "3 2; 1 1")


class Basis(unittest.TestCase):
    def check_reduced(self, space):
        rows = space.basis()
        self.assertIs(type(rows), list)
        self.assertEqual(len(rows), len(space))
        before = -1
        for row in rows:
            self.assertIs(type(row), tuple)
            self.assertEqual(len(row), space.length)
            self.assertTrue(all(type(item) is int and 0 <= item < space.prime for item in row))
            first = next(at for at, item in enumerate(row) if item)
            self.assertEqual(row[first], 1)
            self.assertGreater(first, before)
            self.assertEqual([other[first] for other in rows if other != row], [0] * (len(rows) - 1))
            before = first

    def test_reduced(self):
        random = Random(2)
        for prime in PRIMES:
            for length in (1, 2, 3, 5, 8, 12):
                for many in (0, 1, 2, 4, 7, 12):
                    self.check_reduced(Space(prime, length, some_vectors(random, prime, length, many)))

    def test_the_same_for_all_vectors_that_span_it(self):
        for prime, length in ((2, 3), (3, 2)):
            for vectors in all_spans(prime, length):
                expected = Space(prime, length, sorted(vectors)).basis()
                self.assertEqual(prime ** len(expected), len(vectors))
                self.assertEqual(Space(prime, length, sorted(vectors, reverse=True)).basis(), expected)
                for one in vectors:
                    for other in vectors:
                        if span(prime, length, [one, other]) == vectors:
                            self.assertEqual(Space(prime, length, [one, other]).basis(), expected)

    def test_same_space_by_other_bases(self):
        random = Random(3)
        for prime in PRIMES:
            rows = some_vectors(random, prime, 12, 6)
            space = Space(prime, 12, rows)
            for _ in range(5):
                mixed = [*rows, tuple(x - 3 * y for x, y in zip(rows[0], rows[4]))]
                random.shuffle(mixed)
                self.assertEqual(Space(prime, 12, mixed).basis(), space.basis())

    def test_list_is_new_on_each_call(self):
        space = Space(5, 2, [(1, 2)])
        told = space.basis()
        told[0] = (0, 0)
        told.append((1, 1))
        self.assertEqual(space.basis(), [(1, 2)])
        self.assertEqual((len(space), space.text()), (1, "5 2; 1 2"))
        self.assertIsNot(space.basis(), space.basis())

    def test_dimension(self):
        for prime, length in ((2, 4), (3, 3), (5, 2)):
            for vectors in all_spans(prime, length):
                self.assertEqual(len(Space(prime, length, sorted(vectors))), dimension(prime, vectors))


class Comparing(unittest.TestCase):
    def test_equal_and_within(self):
        for prime, length in ((2, 3), (3, 2), (5, 2)):
            spans = all_spans(prime, length)
            spaces = [Space(prime, length, sorted(vectors)) for vectors in spans]
            for one, mine in zip(spaces, spans):
                for other, yours in zip(spaces, spans):
                    self.assertIs(one == other, mine == yours)
                    self.assertIs(one != other, mine != yours)
                    self.assertIs(one <= other, mine <= yours)

    def test_unlike_spaces_are_not_equal(self):
        self.assertIs(Space(2, 2) == Space(3, 2), False)
        self.assertIs(Space(2, 2) == Space(2, 3), False)
        self.assertIs(Space(2, 0) == Space(3, 0), False)
        self.assertIs(Space.whole(2, 1) == Space.whole(3, 1), False)
        self.assertIs(Space.whole(2, 1) != Space.whole(3, 1), True)

    def test_other_classes_are_not_equal(self):
        space = Space(2, 1, [(1,)])
        for other in (None, True, 1, "2 1; 1", [(1,)], ((1,),), {}, object(), BadPrime(2)):
            self.assertIs(space == other, False)
            self.assertIs(other == space, False)
            self.assertIs(space != other, True)

    def test_within_unlike_spaces(self):
        for one, other in ((Space(2, 2), Space(3, 2)), (Space(2, 2), Space(2, 3)), (Space(2, 0), Space(5, 1))):
            for first, second in ((one, other), (other, one)):
                with self.assertRaises(UnlikeSpaces):
                    first <= second


class Vectors(unittest.TestCase):
    def test_in(self):
        for prime, length in ((2, 3), (3, 2), (5, 2), (2, 0)):
            for vectors in all_spans(prime, length):
                space = Space(prime, length, sorted(vectors))
                for vector in all_vectors(prime, length):
                    self.assertIs(vector in space, vector in vectors)
                    self.assertIs(list(vector) in space, vector in vectors)
                    self.assertIs([item - 3 * prime for item in vector] in space, vector in vectors)

    def test_rest(self):
        for prime, length in ((2, 3), (3, 3), (5, 2), (2, 0)):
            for vectors in all_spans(prime, length):
                space = Space(prime, length, sorted(vectors))
                firsts = [row.index(1) for row in space.basis()]
                for vector in all_vectors(prime, length):
                    told = space.rest(vector)
                    self.assertIs(type(told), tuple)
                    self.assertTrue(all(item in range(prime) for item in told))
                    self.assertEqual([told[at] for at in firsts], [0] * len(firsts))
                    self.assertIn(tuple((x - y) % prime for x, y in zip(vector, told)), vectors)
                    self.assertEqual(space.rest([item + 2 * prime for item in vector]), told)

    def test_rest_of_great_integers(self):
        space = Space(13, 2, [(1, 5)])
        self.assertEqual(space.rest([10 ** 29, -10 ** 29]), (0, -6 * 10 ** 29 % 13))
        self.assertEqual(Space(13, 2).rest((10 ** 29, -1)), (10 ** 29 % 13, 12))
        self.assertEqual(space.rest(vector=(1, 5)), (0, 0))

    def test_bad_vector(self):
        space = Space(3, 2, [(1, 1)])
        for told in NO_VECTORS_OF_TWO:
            with self.subTest(told=told):
                with self.assertRaises(BadVector) as caught:
                    told in space
                self.assertEqual(caught.exception.vector, told)
                self.assertIs(type(caught.exception.vector), type(told))
                with self.assertRaises(BadVector) as caught:
                    space.rest(told)
                self.assertEqual(caught.exception.vector, told)
        self.assertEqual(space.text(), "3 2; 1 1")

    def test_vector_is_left_as_it_is(self):
        vector = [7, -8]
        space = Space(3, 2, [(1, 1)])
        space.rest(vector)
        vector in space
        self.assertEqual(vector, [7, -8])

    def test_all_vectors_in_ascending_order(self):
        for prime, length in ((2, 4), (3, 3), (5, 2), (13, 1), (7, 0)):
            for vectors in all_spans(prime, length):
                told = list(Space(prime, length, sorted(vectors)).vectors())
                self.assertEqual(told, sorted(vectors))
        space = Space(11, 5, [(0, 1, 2, 0, 3), (0, 0, 0, 1, 10)])
        told = list(space.vectors())
        self.assertEqual((told, len(told)), (sorted(told), 121))
        self.assertTrue(all(type(vector) is tuple for vector in told))

    def test_vectors_is_a_generator(self):
        told = Space(2, 1).vectors()
        self.assertIs(iter(told), told)
        self.assertEqual(next(told), (0,))
        with self.assertRaises(StopIteration):
            next(told)

    def test_two_walks_at_a_time(self):
        space = Space(3, 3, [(1, 0, 2), (0, 1, 1)])
        expected = list(space.vectors())
        one, other = space.vectors(), space.vectors()
        self.assertEqual([next(one), next(one)], expected[:2])
        self.assertEqual(next(other), expected[0])
        self.assertEqual(list(one), expected[2:])
        self.assertEqual(list(other), expected[1:])
        pairs = [(x, y) for x in space.vectors() for y in space.vectors()]
        self.assertEqual(pairs, [(x, y) for x in expected for y in expected])

    def test_first_vectors_of_a_great_space(self):
        told = list(islice(Space.whole(13, 12).vectors(), 30))
        zeros = (0,) * 10
        self.assertEqual(told, [zeros + (at // 13, at % 13) for at in range(30)])


if __name__ == "__main__":
    unittest.main()

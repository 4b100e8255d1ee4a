import unittest
from collections import Counter
from itertools import product
from random import Random

from brute import all_spans, rank, span_alike
from drawn import (
    KINDS, PRIMES, drawn_matrix, drawn_numbers, drawn_triple, hand_rows, mixed_triple, sent_to)
from values import ANY_VALUES, is_like

from handspaces.carrying import all_numbers, alike, carry, is_carried, keepers, triple_count
from handspaces.errors import BadLength, BadNumbers, BadPrime, TooGreat, UnlikeSpaces
from handspaces.pieces import nine_numbers
from handspaces.spaces import Space
from handspaces.triples import Triple, kind_triple, triple_of

NO_PRIMES = [0, 1, 4, 9, 14, -2, True, None, "2", [2], (2,), {}]


def bases(triple):
    return {hand: triple[hand].basis() for hand in "abc"}


def carries(matrix, one, other):
    """Whether a matrix carries a triple to another one, by an elimination of the tests alone."""
    prime, length = one.prime, one.length
    if len(matrix) != length or any(len(row) != length for row in matrix) or rank(prime, matrix) != length:
        return False
    sent = {hand: [sent_to(prime, row, matrix) for row in one[hand].basis()] for hand in "abc"}
    return all(span_alike(prime, sent[hand], other[hand].basis()) for hand in "abc")


def times(prime, one, other):
    """The matrix that sends a vector where another matrix sends what one sends it to."""
    return [sent_to(prime, row, other) for row in one]


def all_triples(prime, length):
    for sets in product(all_spans(prime, length), repeat=3):
        yield Triple(*[Space(prime, length, sorted(vectors)) for vectors in sets])


class Carry(unittest.TestCase):
    def check(self, one, other):
        before = bases(one), bases(other)
        matrix = carry(one, other)
        self.assertEqual((bases(one), bases(other)), before)
        if nine_numbers(one) != nine_numbers(other):
            self.assertIsNone(matrix)
            return None
        self.assertIs(type(matrix), list)
        for row in matrix:
            self.assertIs(type(row), tuple)
            self.assertTrue(all(type(item) is int and 0 <= item < one.prime for item in row))
        self.assertTrue(carries(matrix, one, other), (before, matrix))
        self.assertIs(is_carried(matrix, one, other), True)
        return matrix

    def test_put_together_of_the_same_kinds_and_mixed(self):
        random = Random(70)
        for prime in PRIMES:
            for length in range(8):
                for _ in range(3):
                    numbers = drawn_numbers(random, length)
                    told = [mixed_triple(random, prime, numbers) for _ in range(2)]
                    self.assertIsNotNone(self.check(*told))
                    self.assertIsNotNone(self.check(triple_of(prime, numbers), told[0]))

    def test_to_itself(self):
        random = Random(71)
        for prime in PRIMES:
            for length in range(8):
                triple = drawn_triple(random, prime, length)
                self.assertIsNotNone(self.check(triple, triple))

    def test_drawn_triples(self):
        random = Random(72)
        found = Counter()
        for at in range(400):
            prime, length = PRIMES[at % 6], at % 8
            told = self.check(drawn_triple(random, prime, length), drawn_triple(random, prime, length))
            found[told is None] += 1
        self.assertGreater(min(found.values()), 20)

    def test_all_triples_of_small_lengths(self):
        for prime, length in ((2, 0), (2, 1), (3, 1), (2, 2)):
            triples = list(all_triples(prime, length))
            for one in triples:
                for other in triples[::7]:
                    self.check(one, other)

    def test_other_numbers(self):
        random = Random(73)
        for prime in PRIMES:
            for one, other in (
                ({"plane": 1}, {"a": 1, "b": 1}), ({"plane": 1}, {"": 1, "abc": 1}), ({"plane": 1}, {"ab": 1, "c": 1}),
                ({"a": 1}, {"b": 1}), ({"a": 2, "bc": 1}, {"a": 1, "bc": 2}), ({"": 1}, {"abc": 1}),
                ({"plane": 3}, {"plane": 2, "a": 1, "b": 1}), ({"ab": 1, "c": 1}, {"ac": 1, "b": 1}),
            ):
                told = mixed_triple(random, prime, one), mixed_triple(random, prime, other)
                self.assertIsNone(carry(*told))
                self.assertIsNone(carry(*told[::-1]))

    def test_undone_and_put_together(self):
        random = Random(74)
        for at in range(60):
            prime, numbers = PRIMES[at % 6], drawn_numbers(random, at % 8)
            one, two, three = [mixed_triple(random, prime, numbers) for _ in range(3)]
            there, back, on = carry(one, two), carry(two, one), carry(two, three)
            self.assertTrue(carries(times(prime, there, back), one, one))
            self.assertTrue(is_carried(times(prime, there, back), one, one))
            self.assertTrue(is_carried(times(prime, there, on), one, three))

    def test_length_twelve(self):
        random = Random(75)
        for prime in PRIMES:
            numbers = drawn_numbers(random, 12)
            self.assertIsNotNone(self.check(mixed_triple(random, prime, numbers), mixed_triple(random, prime, numbers)))

    def test_new_lists(self):
        triple = triple_of(2, {"a": 1, "plane": 1})
        told = carry(one=triple, other=triple)
        kept = list(told)
        told.clear()
        self.assertEqual(carry(triple, triple), kept)


class IsCarried(unittest.TestCase):
    def check(self, matrix, one, other):
        before = [list(row) for row in matrix]
        told = is_carried(matrix, one, other)
        self.assertIs(told, carries(matrix, one, other), (matrix, bases(one), bases(other)))
        self.assertEqual([list(row) for row in matrix], before)
        return told

    def near(self, random, prime, matrix):
        """Matrices that differ from one in a single row or two."""
        size = len(matrix)
        at, to = random.randrange(size), random.randrange(size)
        place, factor = random.randrange(size), random.randrange(prime)
        for more in (1, -1, prime, -5 * prime, 10 ** 29):
            row = list(matrix[at])
            row[place] += more
            yield [*matrix[:at], row, *matrix[at + 1:]]
        swapped = list(matrix)
        swapped[at], swapped[to] = matrix[to], matrix[at]
        yield swapped
        for row in ([x + factor * y for x, y in zip(matrix[at], matrix[to])], [2 * x for x in matrix[at]],
                    [0] * size, matrix[to]):
            yield [*matrix[:at], row, *matrix[at + 1:]]
        yield [list(row) for row in zip(*matrix)]

    def test_multiples_and_other_integers(self):
        random = Random(76)
        for at in range(120):
            prime, numbers = PRIMES[at % 6], drawn_numbers(random, at % 8)
            one, other = [mixed_triple(random, prime, numbers) for _ in range(2)]
            matrix = carry(one, other)
            for factor in (1, -1, 0, prime, prime + 1, random.randrange(prime), 10 ** 28 + 1):
                told = [[factor * item for item in row] for row in matrix]
                self.assertIs(self.check(told, one, other), factor % prime != 0 or matrix == [])
            told = [tuple(item + prime * random.randrange(-10 ** 20, 10 ** 20) for item in row) for row in matrix]
            self.assertTrue(self.check(told, one, other))
            self.assertTrue(self.check(tuple(told), one, other))

    def test_matrices_near_it(self):
        random = Random(77)
        found = Counter()
        for at in range(200):
            prime, numbers = PRIMES[at % 6], drawn_numbers(random, 1 + at % 7)
            one, other = [mixed_triple(random, prime, numbers) for _ in range(2)]
            for matrix in self.near(random, prime, carry(one, other)):
                found[self.check(matrix, one, other)] += 1
        self.assertGreater(min(found.values()), 300)

    def test_drawn_matrices(self):
        random = Random(78)
        found = Counter()
        for at in range(300):
            prime, length = PRIMES[at % 3], at % 4
            one, other = drawn_triple(random, prime, length), drawn_triple(random, prime, length)
            matrix = drawn_matrix(random, prime, length)
            sent = Triple(*[Space(prime, length, [sent_to(prime, row, matrix) for row in one[hand].basis()])
                            for hand in "abc"])
            self.assertTrue(self.check(matrix, one, sent))
            found[self.check(matrix, one, other)] += 1
            found[self.check([[random.randrange(prime) for _ in range(length)] for _ in range(length)], one, sent)] += 1
        self.assertGreater(min(found.values()), 20)

    def test_sums_of_rows_are_not_enough(self):
        # Whatever is not invertible carries nothing, also where each space goes to its space.
        for prime in PRIMES:
            empty = triple_of(prime, {"": 2})
            for matrix in ([(0, 0), (0, 0)], [(1, 1), (1, 1)], [(1, 0), (0, 0)]):
                self.assertFalse(self.check(matrix, empty, empty))
            self.assertTrue(self.check([(1, 1), (0, 1)], empty, empty))

    def test_other_sizes(self):
        for length in range(4):
            triple = triple_of(3, {"a": length})
            unit = [tuple(int(at == place) for at in range(length)) for place in range(length)]
            self.assertTrue(is_carried(unit, triple, triple))
            wrong = [unit + [(0,) * length], [*unit, ()], [row + (0,) for row in unit + [(1,) * length]], [[1]] * 9]
            if length > 0:
                wrong += [[], unit[1:], [row[1:] for row in unit], [row + (1,) for row in unit], [(), *unit[1:]],
                          [unit[0] + (0,), *unit[1:]], [*unit[:-1], unit[-1][:-1]], [()] * length]
            for matrix in wrong:
                self.assertIs(is_carried(matrix, triple, triple), False, (length, matrix))

    def test_the_empty_list(self):
        for prime in PRIMES:
            self.assertIs(is_carried(matrix=[], one=triple_of(prime, {}), other=triple_of(prime, {})), True)
            self.assertIs(is_carried((), triple_of(prime, {}), triple_of(prime, {})), True)
            self.assertIs(is_carried([()], triple_of(prime, {}), triple_of(prime, {})), False)
            self.assertIs(is_carried([], triple_of(prime, {"a": 1}), triple_of(prime, {"a": 1})), False)


class Unlike(unittest.TestCase):
    def test_both_functions_at_either_side(self):
        triples = [triple_of(prime, {"a": many}) for prime in PRIMES for many in range(3)]
        for one in triples:
            for other in triples:
                if (one.prime, one.length) == (other.prime, other.length):
                    continue
                with self.assertRaises(UnlikeSpaces):
                    carry(one, other)
                for matrix in ([], [(1,)], [(1, 0), (0, 1)], [(1, 2, 3)]):
                    with self.assertRaises(UnlikeSpaces):
                        is_carried(matrix, one, other)


def all_matrices(prime, size):
    rows = list(product(range(prime), repeat=size))
    return [list(told) for told in product(rows, repeat=size)]


def numbers_of(triple):
    return tuple(nine_numbers(triple).values())


class Counts(unittest.TestCase):
    def test_all_triples_of_small_lengths(self):
        for prime in (2, 3, 5):
            for length in range(3):
                invertible = sum(rank(prime, matrix) == length for matrix in all_matrices(prime, length))
                found = Counter(numbers_of(triple) for triple in all_triples(prime, length))
                self.assertEqual(triple_count(prime, length), sum(found.values()))
                listed = list(all_numbers(length))
                self.assertEqual([tuple(told.values()) for told in listed], sorted(found))
                for told in listed:
                    self.assertEqual(alike(prime, told), found[tuple(told.values())])
                    self.assertEqual(keepers(prime, told) * alike(prime, told), invertible)

    def test_keepers_are_the_matrices_that_carry_a_triple_to_itself(self):
        for prime, length in ((2, 0), (2, 1), (3, 1), (5, 1), (2, 2), (3, 2), (2, 3)):
            matrices = all_matrices(prime, length)
            for numbers in all_numbers(length):
                if length == 3 and sum(many > 0 for many in numbers.values()) > 2 and numbers["plane"] == 0:
                    continue
                triple = triple_of(prime, numbers)
                self.assertEqual(keepers(prime, numbers), sum(carries(told, triple, triple) for told in matrices))

    def test_sum_over_all_numbers(self):
        for prime in PRIMES:
            for length in range(6):
                told = list(all_numbers(length))
                self.assertEqual(sum(alike(prime, numbers) for numbers in told), triple_count(prime, length))

    def test_keepers_times_alike(self):
        random = Random(79)
        for at in range(60):
            prime, length = PRIMES[at % 6], at % 13
            numbers = drawn_numbers(random, length)
            invertible = 1
            for dimension in range(length):
                invertible *= prime ** length - prime ** dimension
            self.assertEqual(keepers(prime, numbers) * alike(prime, numbers), invertible)

    def test_told_ones(self):
        for prime in PRIMES:
            self.assertEqual((keepers(prime, {}), alike(prime, {}), triple_count(prime, 0)), (1, 1, 1))
            self.assertEqual((keepers(prime, {"ab": 1}), alike(prime, {"ab": 1})), (prime - 1, 1))
            self.assertEqual(triple_count(prime, 1), 8)
            self.assertEqual(triple_count(prime, 2), (prime + 3) ** 3)
            self.assertEqual(keepers(prime, {"plane": 1}), prime - 1)
            self.assertEqual(alike(prime, {"plane": 1}), (prime + 1) * prime * (prime - 1))
        # 1, 2, 5, 16, 67, 374, 2825 spaces of vectors modulo 2, and 417199 of length 8.
        for length, many in enumerate((1, 2, 5, 16, 67, 374, 2825, 29212, 417199)):
            self.assertEqual(triple_count(2, length), many ** 3)
        self.assertEqual(triple_count(prime=3, length=4), 212 ** 3)

    def test_kinds_left_out(self):
        random = Random(80)
        for at in range(60):
            prime, numbers = PRIMES[at % 6], drawn_numbers(random, at % 13)
            few = [(kind, many) for kind, many in numbers.items() if many > 0 or random.random() < 0.3]
            random.shuffle(few)
            told = dict(few)
            kept = list(told.items())
            self.assertEqual(keepers(prime, told), keepers(prime=prime, numbers=numbers))
            self.assertEqual(alike(prime, told), alike(prime=prime, numbers=numbers))
            self.assertEqual(list(told.items()), kept)

    def test_errors_in_their_order(self):
        for function in (keepers, alike):
            for prime in NO_PRIMES:
                for numbers in ({}, {"no": 1}, {"a": 13}, {"a": -1}):
                    with self.assertRaises(BadPrime) as caught:
                        function(prime, numbers)
                    self.assertTrue(is_like(caught.exception.told, prime))
            for key in [None, True, 0, "d", "ba", "Plane", (), ("a",)]:
                for numbers in ({key: 0}, {"a": 13, key: 1}, {key: 20}):
                    with self.assertRaises(BadNumbers):
                        function(2, numbers)
            for many in (-1, True, False, None, "1", [1], (), {}):
                for numbers in ({"a": many}, {"b": 13, "plane": many}):
                    kept = dict(numbers)
                    with self.assertRaises(BadNumbers):
                        function(3, numbers)
                    self.assertEqual(numbers, kept)
            for numbers, length in (({"a": 13}, 13), ({"plane": 6, "": 1}, 13), (dict.fromkeys(KINDS, 20), 200)):
                with self.assertRaises(TooGreat) as caught:
                    function(13, numbers)
                self.assertEqual(caught.exception.told, length)
            self.assertGreater(function(13, {"plane": 6}), 0)

    def test_lengths(self):
        for prime in NO_PRIMES:
            for length in (0, 13, -1, None, "1"):
                with self.assertRaises(BadPrime) as caught:
                    triple_count(prime, length)
                self.assertTrue(is_like(caught.exception.told, prime))
        for length in [*[value for value in ANY_VALUES if not is_like(value, 0) and value not in (1, 7)], 13, True]:
            with self.assertRaises(BadLength) as caught:
                triple_count(2, length)
            self.assertTrue(is_like(caught.exception.told, length))
            told = all_numbers(length)
            with self.assertRaises(BadLength) as caught:
                next(told)
            self.assertTrue(is_like(caught.exception.told, length))
        self.assertGreater(triple_count(13, 12), triple_count(11, 12))


class AllNumbers(unittest.TestCase):
    def test_all_there_are_once_each_in_ascending_order(self):
        for length in range(7):
            told = list(all_numbers(length=length))
            rows = [tuple(numbers.values()) for numbers in told]
            self.assertEqual(rows, sorted(set(rows)))
            for numbers in told:
                self.assertIs(type(numbers), dict)
                self.assertEqual(list(numbers), list(KINDS))
                self.assertTrue(all(type(many) is int and many >= 0 for many in numbers.values()))
                self.assertEqual(sum(numbers.values()) + numbers["plane"], length)
            if length <= 3:
                every = [row for row in product(range(length + 1), repeat=9) if sum(row) + row[8] == length]
                self.assertEqual(rows, every)

    def test_length_zero(self):
        self.assertEqual(list(all_numbers(0)), [dict.fromkeys(KINDS, 0)])

    def test_it_is_a_generator(self):
        told = all_numbers(12)
        self.assertEqual(next(told), dict.fromkeys(KINDS, 0) | {"plane": 6})
        self.assertEqual(next(told), dict.fromkeys(KINDS, 0) | {"abc": 2, "plane": 5})
        self.assertIs(iter(told), told)
        self.assertEqual(sum(1 for _ in all_numbers(12)), 78354)

    def test_new_dicts(self):
        told = all_numbers(1)
        first = next(told)
        first.clear()
        self.assertEqual(next(told), dict.fromkeys(KINDS, 0) | {"bc": 1})


class Beside(unittest.TestCase):
    def test_numbers_are_added(self):
        random = Random(81)
        for at in range(60):
            prime = PRIMES[at % 6]
            one, other = [drawn_triple(random, prime, random.randrange(7)) for _ in range(2)]
            told, more, both = nine_numbers(one), nine_numbers(other), nine_numbers(one.beside(other))
            self.assertEqual(both, {kind: told[kind] + more[kind] for kind in KINDS})
            # Which of the two stands first is a change of coordinates.
            self.assertTrue(is_carried(carry(one.beside(other), other.beside(one)), one.beside(other),
                                       other.beside(one)))

    def test_each_triple_is_its_kinds_in_other_coordinates(self):
        random = Random(82)
        for at in range(60):
            triple = drawn_triple(random, PRIMES[at % 6], at % 8)
            told = triple_of(triple.prime, nine_numbers(triple))
            _, rows = hand_rows(nine_numbers(triple))
            self.assertTrue(carries(carry(told, triple), told, triple))
            for hand in "abc":
                sent = [sent_to(triple.prime, row, carry(told, triple)) for row in rows[hand]]
                self.assertTrue(span_alike(triple.prime, sent, triple[hand].basis()))

    def test_kinds_are_carried_to_themselves_only(self):
        for prime in PRIMES:
            for one in KINDS:
                for other in KINDS:
                    if (one == "plane") == (other == "plane"):
                        told = carry(kind_triple(prime, one), kind_triple(prime, other))
                        self.assertIs(told is None, one != other)


if __name__ == "__main__":
    unittest.main()

import unittest
from collections import Counter
from itertools import permutations, product
from random import Random

from brute import all_spans, rank, span_alike
from drawn import PRIMES, drawn_matrix, drawn_space, sent_to
from drawnchains import all_cells, counted_table, drawn_chains, is_common
from values import ANY_VALUES, is_like

from handspaces.chains import (
    Chains, carry_chains, cell_table, chains_at, common_basis, is_common_basis, position)
from handspaces.errors import BadOrder, BadPrime, NotWithin, UnlikeSpaces
from handspaces.spaces import Space

NO_PRIMES = [0, 1, 4, 9, 14, -2, True, None, "2", [2], (2,), {}]
SMALL = ((2, 0), (2, 1), (2, 3), (2, 4), (3, 2), (3, 3), (5, 2), (7, 2), (11, 1), (13, 1))


def texts(chains):
    return [[space.text() for space in chain] for chain in (chains.first, chains.second)]


def sent_chains(chains, matrix):
    """The chains of the spaces to which a matrix sends those of two chains."""
    prime, length = chains.prime, chains.length
    return Chains(*[[Space(prime, length, [sent_to(prime, row, matrix) for row in space.basis()]) for space in chain]
                    for chain in (chains.first, chains.second)])


class Created(unittest.TestCase):
    def test_properties(self):
        for prime in PRIMES:
            small, whole = Space(prime, 2, [(1, 1)]), Space.whole(prime, 2)
            for first, second in (([small], [whole]), ([small, whole], [small]), ([small, small, whole], [whole] * 4)):
                for told in (Chains(first, second), Chains(tuple(first), tuple(second)),
                             Chains(second=second, first=first)):
                    self.assertEqual((told.first, told.second), (tuple(first), tuple(second)))
                    self.assertEqual((type(told.first), type(told.second)), (tuple, tuple))
                    self.assertEqual((told.prime, told.length), (prime, 2))

    def test_later_changes_of_the_lists(self):
        small, whole = Space(3, 2, [(1, 1)]), Space.whole(3, 2)
        first, second = [small, whole], [small]
        chains = Chains(first, second)
        first[0] = whole
        first.append(whole)
        second.clear()
        self.assertEqual((chains.first, chains.second), ((small, whole), (small,)))
        self.assertEqual(cell_table(chains), {(1, 1): 1, (1, 2): 0, (2, 1): 0, (2, 2): 1, (3, 1): 0, (3, 2): 0})

    def test_they_never_change(self):
        chains = drawn_chains(Random(220), 3, 3)
        before = texts(chains)
        for name in ("first", "second", "prime", "length"):
            with self.assertRaises(AttributeError):
                setattr(chains, name, ())
        common_basis(chains), cell_table(chains), position(chains), carry_chains(chains, chains)
        is_common_basis(chains, common_basis(chains))
        self.assertEqual(texts(chains), before)

    def test_unlike_spaces_at_each_place(self):
        for prime, length in ((2, 2), (3, 0), (13, 1)):
            space = Space.whole(prime, length)
            for first, second in product(range(1, 5), repeat=2):
                for other in (Space.whole(prime, length + 1), Space.whole(5, length), Space.nothing(prime, 7)):
                    for at in range(first + second):
                        told = [space] * (first + second)
                        told[at] = other
                        if first + second > 1:
                            with self.assertRaises(UnlikeSpaces):
                                Chains(told[:first], told[first:])
                    for one, more in (([other], [space]), ([space], [other]), ([other] * first, [space] * second)):
                        with self.assertRaises(UnlikeSpaces):
                            Chains(one, more)

    def test_unlike_comes_before_not_within(self):
        small, whole, other = Space(2, 2, [(1, 1)]), Space.whole(2, 2), Space.whole(2, 3)
        for first, second in (([whole, small], [other]), ([whole, small, other], [whole]),
                              ([small], [whole, small, other]),
                              ([other], [whole, small]), ([whole, small], [small, Space.whole(3, 2)])):
            with self.assertRaises(UnlikeSpaces):
                Chains(first, second)

    def test_not_within_at_each_place(self):
        small, big, whole = Space(2, 3, [(1, 1, 0)]), Space(2, 3, [(1, 1, 0), (0, 0, 1)]), Space.whole(2, 3)
        beside = Space(2, 3, [(1, 0, 0)])
        for chain in ([big, small], [small, big, small], [small, whole, big, whole], [whole, big], [small, beside],
                      [small, big, whole, big], [beside, big, whole]):
            for other in ([small], [small, big, whole], [whole] * 4):
                with self.assertRaises(NotWithin):
                    Chains(chain, other)
                with self.assertRaises(NotWithin):
                    Chains(other, chain)
        # Only the next space has to contain one, so equal spaces are fine, and so are unlike chains.
        self.assertEqual(Chains([small, small, big], [beside, whole]).length, 3)


class Bases(unittest.TestCase):
    def check(self, chains):
        before = texts(chains)
        rows = common_basis(chains)
        self.assertIs(type(rows), list)
        for row in rows:
            self.assertEqual([type(part) for part in row], [int, int, tuple])
            self.assertIs(type(row), tuple)
            self.assertTrue(all(type(item) is int and 0 <= item < chains.prime for item in row[2]))
        self.assertTrue(is_common(chains, rows), (before, rows))
        self.assertIs(is_common_basis(chains, rows), True)
        table = cell_table(chains)
        self.assertEqual(list(table), all_cells(len(chains.first), len(chains.second)))
        found = Counter((i, j) for i, j, _ in rows)
        self.assertTrue(is_like(table, {cell: found[cell] for cell in table}))
        self.assertEqual(texts(chains), before)
        return rows, table

    def test_drawn_chains(self):
        random = Random(221)
        for at in range(150):
            self.check(drawn_chains(random, PRIMES[at % 6], at % 7))

    def test_small_spaces_with_counted_vectors(self):
        random = Random(222)
        for prime, length in SMALL:
            for _ in range(12):
                chains = drawn_chains(random, prime, length)
                self.assertEqual(self.check(chains)[1], counted_table(chains))

    def test_all_pairs_of_short_chains(self):
        for prime, length in ((2, 1), (2, 2), (3, 1)):
            spans = [Space(prime, length, sorted(vectors)) for vectors in all_spans(prime, length)]
            growing = [[one] for one in spans] + [[one, other] for one in spans for other in spans if one <= other]
            for first, second in product(growing, repeat=2):
                chains = Chains(first, second)
                self.assertEqual(self.check(chains)[1], counted_table(chains))

    def test_great_spaces(self):
        random = Random(223)
        for prime in PRIMES:
            chains = drawn_chains(random, prime, 12, 4, 4)
            self.check(chains)

    def test_new_answers(self):
        chains = drawn_chains(Random(224), 3, 4, 2, 2)
        for ask in (common_basis, cell_table):
            told = ask(chains=chains)
            kept = told.copy()
            told.clear()
            self.assertEqual(ask(chains), kept)


class IsCommonBasis(unittest.TestCase):
    def check(self, chains, rows):
        kept = [(i, j, list(vector)) for i, j, vector in rows]
        told = is_common_basis(chains, rows)
        self.assertIs(told, is_common(chains, rows), (texts(chains), rows))
        self.assertEqual([(i, j, list(vector)) for i, j, vector in rows], kept)
        return told

    def spoilt(self, random, chains, rows):
        """Lists that differ from a common basis in a single item, or not at all."""
        at, to = random.randrange(len(rows)), random.randrange(len(rows))
        i, j, vector = rows[at]
        drawn = [random.randrange(-chains.prime, 2 * chains.prime) for _ in vector]
        yield random.sample(rows, len(rows))
        yield rows[:at] + rows[at + 1:]
        yield [*rows, rows[at]]
        yield [*rows[:at], rows[to], *rows[at + 1:]]
        for other in ([2 * item for item in vector], [x + y for x, y in zip(vector, rows[to][2])], drawn,
                      (0,) * len(vector),
                      [item + chains.prime * 10 ** 20 for item in vector], vector[1:], [*vector, 0], [], ()):
            yield [*rows[:at], (i, j, other), *rows[at + 1:]]
        p, q = len(chains.first), len(chains.second)
        for cell in ((i + 1, j), (i, j + 1), (i - 1, j), (i, j - 1), (0, j), (i, 0), (p + 1, q + 1), (p + 2, j),
                     (i, q + 2),
                     (-1, -1), (j, i), rows[to][:2]):
            yield [*rows[:at], (*cell, vector), *rows[at + 1:]]

    def test_spoilt_lists(self):
        random = Random(225)
        found = Counter()
        for at in range(150):
            chains = drawn_chains(random, PRIMES[at % 6], 1 + at % 6)
            for rows in self.spoilt(random, chains, common_basis(chains)):
                found[self.check(chains, rows)] += 1
        self.assertGreater(min(found.values()), 300)

    def test_all_lists_for_small_spaces(self):
        for prime, length in ((2, 1), (3, 1), (2, 2)):
            vectors = list(product(range(prime), repeat=length))
            spans = [Space(prime, length, sorted(told)) for told in all_spans(prime, length)]
            for one, other in product(spans, repeat=2):
                chains = Chains([one], [other])
                items = [(i, j, vector) for i, j in all_cells(1, 1) for vector in vectors]
                found = [self.check(chains, list(rows)) for many in range(length + 1)
                         for rows in product(items, repeat=many)]
                self.assertIn(True, found)

    def test_the_empty_list(self):
        for prime in PRIMES:
            empty, line = Space.nothing(prime, 0), Space.nothing(prime, 1)
            self.assertIs(is_common_basis(chains=Chains([empty], [empty]), rows=[]), True)
            self.assertIs(is_common_basis(Chains([empty], [empty, empty]), ()), True)
            self.assertIs(is_common_basis(Chains([empty], [empty]), [(1, 1, ())]), False)
            self.assertIs(is_common_basis(Chains([line], [line]), []), False)
            self.assertIs(is_common_basis(Chains([line], [line]), [(2, 2, [1])]), True)


class Positions(unittest.TestCase):
    def test_of_every_order(self):
        random = Random(226)
        for size in range(1, 5):
            for order in permutations(range(1, size + 1)):
                for prime in PRIMES:
                    chains = chains_at(prime, list(order))
                    self.assertIs(type(chains), Chains)
                    self.assertEqual((chains.prime, chains.length), (prime, size))
                    self.assertEqual([len(space) for space in chains.first + chains.second], [*range(1, size + 1)] * 2)
                    self.assertEqual(position(chains), order)
                    self.assertIs(type(position(chains)), tuple)
                    cells = [(i, j) for i, j, _ in common_basis(chains)]
                    self.assertEqual(cells, list(enumerate(order, start=1)))
                    mixed = sent_chains(chains, drawn_matrix(random, prime, size))
                    self.assertEqual(position(chains=mixed), order)
                    self.assertEqual(position(Chains(mixed.second, mixed.first)),
                                     tuple(order.index(at) + 1 for at in range(1, size + 1)))

    def test_tuples(self):
        for order in ((1,), (2, 1), (3, 1, 2), (2, 4, 1, 3)):
            self.assertEqual(position(chains_at(order=order, prime=5)), order)

    def test_the_list_stays(self):
        order = [2, 3, 1]
        chains = chains_at(2, order)
        self.assertEqual(order, [2, 3, 1])
        order.clear()
        self.assertEqual(position(chains), (2, 3, 1))

    def test_none_unless_both_are_full(self):
        small, whole, zero = Space(3, 2, [(1, 1)]), Space.whole(3, 2), Space.nothing(3, 2)
        full = [small, whole]
        self.assertEqual(position(Chains(full, full)), (1, 2))
        for chain in ([small], [whole], [zero], [zero, small, whole], [small, small, whole], [small, whole, whole],
                      [small, small], [whole, whole], [zero, whole], [zero, small]):
            self.assertIsNone(position(Chains(chain, full)))
            self.assertIsNone(position(Chains(full, chain)))
            self.assertIsNone(position(Chains(chain, chain)))
        empty = Space.nothing(3, 0)
        self.assertIsNone(position(Chains([empty], [empty])))
        line = Space.whole(3, 1)
        self.assertEqual(position(Chains([line], [line])), (1,))

    def test_drawn_full_chains(self):
        random = Random(227)
        found = Counter()
        for at in range(150):
            prime, size = PRIMES[at % 3], 1 + at % 4
            rows, others = drawn_matrix(random, prime, size), drawn_matrix(random, prime, size)
            chains = Chains(*[[Space(prime, size, told[:many]) for many in range(1, size + 1)]
                              for told in (rows, others)])
            order = position(chains)
            found[order] += 1
            self.assertEqual(sorted(order), list(range(1, size + 1)))
            self.assertEqual(cell_table(chains), cell_table(chains_at(prime, list(order))))
        self.assertGreater(len(found), 12)

    def test_bad_prime_comes_first(self):
        for prime in NO_PRIMES:
            for order in ([1], [1, 2], [], [2], None, [1, 1]):
                with self.assertRaises(BadPrime) as caught:
                    chains_at(prime, order)
                self.assertTrue(is_like(caught.exception.told, prime))

    def test_bad_orders(self):
        wrong = [*ANY_VALUES, [0], [2], [1, 1], [1, 3], [0, 1], [2, 3], [1, 2, 2], [1, 2, 4], [1, 2, 3, 4, 5],
                 [5, 1, 2, 3, 4],
                 [True], [1, True], [True, 2], [2, True], ["1"], [1, "2"], [1, None], [1, [2]], [[1]], [(1,)], "1",
                 "12", 1, 12,
                 {1: 1}, {1: True, 2: True}, [-1], [1, -2], [1, 2, 3, 3], [1, 2, 3, 10 ** 30], (2,), (1, 1),
                 [1, 2, {}], [{}]]
        for order in wrong:
            with self.subTest(order=order):
                with self.assertRaises(BadOrder) as caught:
                    chains_at(3, order)
                self.assertTrue(is_like(caught.exception.order, order))


class Carried(unittest.TestCase):
    def check(self, one, other):
        before = texts(one), texts(other)
        matrix = carry_chains(one, other)
        self.assertEqual((texts(one), texts(other)), before)
        many = [(len(told.first), len(told.second)) for told in (one, other)]
        alike = many[0] == many[1] and counted_or_told(one) == counted_or_told(other)
        self.assertIs(matrix is not None, alike)
        if alike:
            self.assertIs(type(matrix), list)
            self.assertTrue(all(type(row) is tuple and len(row) == one.length for row in matrix))
            self.assertTrue(all(type(item) is int and 0 <= item < one.prime for row in matrix for item in row))
            self.assertEqual((len(matrix), rank(one.prime, matrix)), (one.length, one.length))
            for space, wanted in zip(one.first + one.second, other.first + other.second):
                sent = [sent_to(one.prime, row, matrix) for row in space.basis()]
                self.assertTrue(span_alike(one.prime, sent, wanted.basis()))
        return alike

    def test_mixed(self):
        random = Random(228)
        for at in range(120):
            chains = drawn_chains(random, PRIMES[at % 6], at % 7)
            others = [sent_chains(chains, drawn_matrix(random, chains.prime, chains.length)) for _ in range(2)]
            for one, other in ((chains, others[0]), (others[0], others[1]), (chains, chains)):
                self.assertTrue(self.check(one, other))

    def test_drawn_chains(self):
        random = Random(229)
        found = Counter()
        for at in range(400):
            prime, length = PRIMES[at % 3], at % 4
            many = [random.randrange(1, 3) for _ in range(2)]
            found[self.check(drawn_chains(random, prime, length, *many),
                             drawn_chains(random, prime, length, *many))] += 1
            self.check(drawn_chains(random, prime, length), drawn_chains(random, prime, length))
        self.assertGreater(min(found.values()), 40)

    def test_other_numbers_of_spaces(self):
        zero, whole = Space.nothing(2, 2), Space.whole(2, 2)
        told = [[whole], [whole, whole], [zero, whole], [zero], [zero, zero, whole]]
        for first, second, third, fourth in product(told, repeat=4):
            self.check(Chains(first, second), Chains(third, fourth))
        self.assertIsNone(carry_chains(one=Chains([whole], [whole]), other=Chains([whole, whole], [whole])))

    def test_unlike(self):
        for prime, length in product((2, 3, 13), range(3)):
            for other_prime, other_length in product((2, 3, 13), range(3)):
                if (prime, length) != (other_prime, other_length):
                    one, other = Space.whole(prime, length), Space.whole(other_prime, other_length)
                    for many in range(1, 4):
                        with self.assertRaises(UnlikeSpaces):
                            carry_chains(Chains([one], [one]), Chains([other] * many, [other]))


def counted_or_told(chains):
    """The cell table, by counting where there are not too many vectors."""
    return counted_table(chains) if chains.prime ** chains.length <= 300 else cell_table(chains)


class Drawn(unittest.TestCase):
    def test_spaces_are_drawn_of_all_dimensions(self):
        random = Random(230)
        self.assertEqual({len(drawn_space(random, 3, 3)) for _ in range(60)}, {0, 1, 2, 3})


if __name__ == "__main__":
    unittest.main()

import unittest
from copy import deepcopy
from itertools import combinations, product
from random import Random

from brute import all_spans, all_vectors, takes_apart
from drawn import KINDS, PRIMES, drawn_numbers, drawn_triple, mixed_triple

from handspaces.pieces import is_apart, nine_numbers, pieces
from handspaces.spaces import Space
from handspaces.triples import Triple, kind_triple, triple_of


def bases(triple):
    return {hand: triple[hand].basis() for hand in "abc"}


def is_right(triple, listed):
    """Whether pieces take a triple apart, by a check of the tests alone."""
    return takes_apart(triple.prime, triple.length, bases(triple), listed)


def counted(listed):
    return {kind: [told for told, _ in listed].count(kind) for kind in KINDS}


class Taken(unittest.TestCase):
    def check(self, triple):
        before = bases(triple)
        listed = pieces(triple)
        self.assertTrue(is_right(triple, listed), (before, listed))
        self.assertTrue(is_apart(triple, listed))
        self.assertIs(type(listed), list)
        for piece in listed:
            self.assertIs(type(piece), tuple)
            kind, vectors = piece
            self.assertIn(kind, KINDS)
            self.assertEqual(len(vectors), 2 if kind == "plane" else 1)
            for vector in (vectors, *vectors):
                self.assertIs(type(vector), tuple)
            for vector in vectors:
                self.assertTrue(all(type(item) is int and 0 <= item < triple.prime for item in vector))
        places = [KINDS.index(kind) for kind, _ in listed]
        self.assertEqual(places, sorted(places))
        self.assertEqual(bases(triple), before)
        return listed

    def test_put_together_of_kinds_and_mixed(self):
        random = Random(50)
        for prime in PRIMES:
            for length in range(13):
                for _ in range(2):
                    numbers = drawn_numbers(random, length)
                    listed = self.check(mixed_triple(random, prime, numbers))
                    self.assertEqual(counted(listed), numbers)
                    self.check(triple_of(prime, numbers))

    def test_many_planes(self):
        random = Random(51)
        for prime in PRIMES:
            for many in range(7):
                rest = 12 - 2 * many
                numbers = dict.fromkeys(KINDS, 0) | {"plane": many, "ab": rest // 2, "bc": rest // 3}
                self.assertEqual(counted(self.check(mixed_triple(random, prime, numbers))), numbers)

    def test_drawn_triples(self):
        random = Random(52)
        for at in range(260):
            self.check(drawn_triple(random, PRIMES[at % 6], at % 13))

    def test_all_triples_of_small_lengths(self):
        for prime, length in ((2, 0), (2, 1), (2, 2), (3, 2), (13, 1)):
            for sets in product(all_spans(prime, length), repeat=3):
                self.check(Triple(*[Space(prime, length, sorted(vectors)) for vectors in sets]))

    def test_some_triples_of_length_three(self):
        spans = all_spans(2, 3)
        for sets in list(product(spans, repeat=3))[::13]:
            self.check(Triple(*[Space(2, 3, sorted(vectors)) for vectors in sets]))

    def test_kinds(self):
        for prime in PRIMES:
            for kind in KINDS:
                listed = self.check(kind_triple(prime, kind))
                self.assertEqual([told for told, _ in listed], [kind])

    def test_new_lists(self):
        triple = triple_of(3, {"ab": 1, "plane": 1})
        told = pieces(triple)
        kept = list(told)
        told.clear()
        self.assertEqual(pieces(triple), kept)
        self.assertEqual(pieces(triple=triple), kept)


class Shown(unittest.TestCase):
    def check(self, triple, listed):
        kept = deepcopy(listed)
        told = is_apart(triple, listed)
        self.assertIs(type(told), bool)
        self.assertEqual(told, is_right(triple, listed), (bases(triple), listed))
        self.assertEqual(is_apart(pieces=tuple(listed), triple=triple), told)
        self.assertEqual(listed, kept)
        return told

    def test_in_another_order_and_as_lists(self):
        random = Random(53)
        for at in range(80):
            triple = drawn_triple(random, PRIMES[at % 6], at % 13)
            listed = pieces(triple)
            random.shuffle(listed)
            self.assertTrue(self.check(triple, listed))
            self.assertTrue(self.check(triple, [(kind, list(vectors)) for kind, vectors in listed]))
            lists = [(kind, [[item + triple.prime * random.randrange(-3, 4) for item in vector] for vector in vectors])
                     for kind, vectors in listed]
            self.assertTrue(self.check(triple, lists))
            great = [(kind, [[item - triple.prime * 10 ** 28 for item in vector] for vector in vectors])
                     for kind, vectors in lists]
            self.assertTrue(self.check(triple, great))

    def test_empty_list(self):
        for prime in PRIMES:
            self.assertTrue(is_apart(triple_of(prime, {}), []))
            self.assertTrue(is_apart(triple_of(prime, {}), ()))
            for kind in KINDS:
                self.assertFalse(is_apart(kind_triple(prime, kind), []))

    def test_vectors_of_length_zero(self):
        triple = triple_of(2, {})
        for listed in ([("", [()])], [("abc", [()])], [("plane", [(), ()])], [("a", [])], [("plane", [])]):
            self.assertFalse(self.check(triple, listed))

    def test_numbers_of_vectors(self):
        for prime in PRIMES:
            triple = kind_triple(prime, "plane")
            one, two = (1, 0), (0, 1)
            self.assertTrue(self.check(triple, [("plane", [one, two])]))
            for vectors in ([], [one], [one, two, (1, 1)], [one, two, two], [one, one], [two, one]):
                self.check(triple, [("plane", vectors)])
            self.assertFalse(is_apart(triple, [("plane", [one, two, (1, 1)])]))
            for kind in KINDS[:8]:
                line = kind_triple(prime, kind)
                self.assertTrue(self.check(line, [(kind, [(1,)])]))
                for vectors in ([], [(1,), (1,)], [(1,), (0,)]):
                    self.assertFalse(self.check(line, [(kind, vectors)]))
                both = triple_of(prime, {kind: 2})
                self.assertTrue(self.check(both, [(kind, [one]), (kind, [two])]))
                wide, none = (kind, [one, two]), (kind, [])
                for listed in ([wide], [wide, none], [none, wide]):
                    self.assertFalse(self.check(both, listed))

    def test_all_pieces_for_small_triples(self):
        for prime, length in ((2, 1), (3, 1), (2, 2)):
            vectors = all_vectors(prime, length)
            singles = [(kind, (vector,)) for kind in KINDS[:8] for vector in vectors]
            doubles = [("plane", told) for told in product(vectors, repeat=2)]
            lists = [[], *[[told] for told in singles + doubles], *[list(told) for told in combinations(singles, 2)]]
            triples = [Triple(*[Space(prime, length, sorted(told)) for told in sets])
                       for sets in product(all_spans(prime, length), repeat=3)]
            for triple in triples if length == 1 else triples[::9]:
                found = [self.check(triple, listed) for listed in lists]
                self.assertIn(True, found)

    def spoilt(self, random, triple, listed):
        """Lists that differ from one in a single place."""
        at, to = random.randrange(len(listed)), random.randrange(len(listed))
        kind, vectors = listed[at]
        place = random.randrange(len(vectors))
        drawn = tuple(random.randrange(triple.prime) for _ in range(triple.length))
        other = random.choice(listed[to][1])
        factor = random.randrange(triple.prime)
        told = {
            "exchanged": [*vectors[:place], drawn, *vectors[place + 1:]],
            "multiplied": [*vectors[:place], [factor * item for item in vectors[place]], *vectors[place + 1:]],
            "added": [*vectors[:place], [x + y for x, y in zip(vectors[place], other)], *vectors[place + 1:]],
            "turned": list(vectors[::-1]),
        }
        for changed in told.values():
            yield [*listed[:at], (kind, changed), *listed[at + 1:]]
        yield [*listed[:at], (random.choice(KINDS), vectors), *listed[at + 1:]]
        yield [*listed[:at], *listed[at + 1:]]
        yield [*listed[:at], listed[at], *listed[at:]]
        yield [*listed, (kind, [drawn])]
        if at != to:
            rest = [piece for place, piece in enumerate(listed) if place not in (at, to)]
            yield [*rest, (kind, [*vectors, *listed[to][1]])]
            yield [*rest, ("plane", [*vectors, *listed[to][1]])]
            yield [*rest, (kind, listed[to][1]), (listed[to][0], vectors)]

    def test_spoilt_pieces(self):
        random = Random(54)
        found = {True: 0, False: 0}
        for at in range(250):
            triple = drawn_triple(random, PRIMES[at % 6], 1 + at % 12)
            for listed in self.spoilt(random, triple, pieces(triple)):
                found[self.check(triple, listed)] += 1
        self.assertGreater(found[False], 1000)
        self.assertGreater(found[True], 100)

    def test_another_triple(self):
        random = Random(55)
        for at in range(80):
            prime, length = PRIMES[at % 6], 1 + at % 12
            one, other = drawn_triple(random, prime, length), drawn_triple(random, prime, length)
            self.check(one, pieces(other))
            for hand in "abc":
                self.check(one.changed(hand, other[hand]), pieces(one))
            for order in ("bac", "cba", "acb", "bca"):
                self.check(one.swapped(order), pieces(one))


class Numbers(unittest.TestCase):
    def test_what_the_triple_was_put_together_of(self):
        random = Random(56)
        for prime in PRIMES:
            for length in range(13):
                numbers = drawn_numbers(random, length)
                for triple in (triple_of(prime, numbers), mixed_triple(random, prime, numbers)):
                    told = nine_numbers(triple)
                    self.assertEqual(list(told.items()), [(kind, numbers[kind]) for kind in KINDS])
                    self.assertTrue(all(type(many) is int for many in told.values()))

    def test_the_two_equations(self):
        random = Random(57)
        for at in range(150):
            triple = drawn_triple(random, PRIMES[at % 6], at % 13)
            a, b, c = triple.a, triple.b, triple.c
            told = nine_numbers(triple)
            self.assertEqual(told["abc"], len(a & b & c))
            self.assertEqual(told["plane"], len(a & (b + c)) - len((a & b) + (a & c)))
            self.assertEqual(told, counted(pieces(triple)))
            self.assertEqual(triple.length, sum(told.values()) + told["plane"])

    def test_swapped(self):
        random = Random(58)
        for at in range(40):
            triple = drawn_triple(random, PRIMES[at % 6], at % 13)
            before = nine_numbers(triple)
            for order in ("bac", "cab", "cba"):
                told = nine_numbers(triple.swapped(order))
                for kind in KINDS[:8]:
                    # The hand at a place of the order gives its space to a, b or c.
                    taken = "".join(sorted("abc"[order.index(hand)] for hand in kind))
                    self.assertEqual(told[taken], before[kind])
                self.assertEqual(told["plane"], before["plane"])

    def test_new_dicts(self):
        triple = triple_of(5, {"a": 1, "plane": 2})
        told = nine_numbers(triple)
        kept = dict(told)
        told["a"] = 7
        told.pop("plane")
        self.assertEqual(nine_numbers(triple=triple), kept)


if __name__ == "__main__":
    unittest.main()

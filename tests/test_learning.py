import unittest
from collections import Counter
from itertools import product
from random import Random

from brute import all_spans, all_vectors, grown, tree_value
from drawn import KINDS, PRIMES, drawn_numbers, drawn_terms, drawn_triple, drawn_word, made_terms, mixed_triple
from onkinds import sums
from values import ANY_VALUES, is_like, is_one_of

from handspaces.errors import BadMove, BadNumbers, Barred, BadVector, NoHand
from handspaces.learning import between, fewest, learn, moved, moves, teaching, vector_for, ways
from handspaces.pieces import nine_numbers
from handspaces.sizes import Claim, coefficients
from handspaces.spaces import Space
from handspaces.triples import Triple, kind_triple, triple_of, value
from handspaces.words import Word

# All eighteen moves, as the document lists them with the letters put in.
MOVES = {
    "a": [("a", ("",), ("a",)), ("a", ("b",), ("ab",)), ("a", ("c",), ("ac",)), ("a", ("bc",), ("abc",)),
          ("a", ("b", "c"), ("plane",)), ("a", ("plane",), ("ab", "ac"))],
    "b": [("b", ("",), ("b",)), ("b", ("a",), ("ab",)), ("b", ("c",), ("bc",)), ("b", ("ac",), ("abc",)),
          ("b", ("a", "c"), ("plane",)), ("b", ("plane",), ("ab", "bc"))],
    "c": [("c", ("",), ("c",)), ("c", ("a",), ("ac",)), ("c", ("b",), ("bc",)), ("c", ("ab",), ("abc",)),
          ("c", ("a", "b"), ("plane",)), ("c", ("plane",), ("ac", "bc"))],
}
ALL = [move for hand in "abc" for move in MOVES[hand]]
NO_MOVES = [
    ("a", (), ()), ("a", ("",), ("b",)), ("a", ("c", "b"), ("plane",)), ("a", ("plane",), ("ac", "ab")),
    ("d", ("",), ("d",)),
    ("a", ("b",), ("ba",)), ("b", ("plane",), ("ab", "ac")), ("", ("",), ("",)), ("a", ("",), ("a", "a")),
    ("ab", ("c",), ("abc",)),
    ("a", ("a",), ("",)), ("a", ("b", "b"), ("plane",)), ("b", ("b", "c"), ("plane",)), ("a", ("", ""), ("a", "a")),
    ("A", ("",), ("A",)), ("c", ("ab",), ("plane",)), ("a", ("plane", "plane"), ("ab", "ac")),
]
NO_MOVE_VALUES = [*NO_MOVES, *ANY_VALUES, ["a", ("",), ("a",)], ("a", [""], ("a",)), ("a", ("",), ["a"]),
                  ("a", "", "a"),
                  ("a", ("",)), ("a", ("",), ("a",), ()), (("",), ("a",), "a"), ("a", ("",), (None,)),
                  (None, ("",), ("a",))]


SMALL = ((2, 0), (2, 1), (2, 2), (3, 1), (3, 2), (2, 3), (2, 4), (5, 2), (13, 1))


def sets_of(triple):
    return {hand: frozenset(triple[hand].vectors()) for hand in "abc"}


def bases(triple):
    return {hand: triple[hand].basis() for hand in "abc"}


class Expected:
    """The moves of vectors by the words of the document, with sets of vectors."""

    def __init__(self, triple, hand):
        self.triple, self.moves, sets = triple, MOVES[hand], sets_of(triple)
        k, l = [other for other in "abc" if other != hand]
        trees = [hand, ("+", ("+", hand, k), l), ("+", hand, k), ("+", hand, l), ("+", hand, ("&", k, l))]
        self.sets = [tree_value(triple.prime, triple.length, tree, sets) for tree in trees]

    def move(self, vector):
        row = tuple(item % self.triple.prime for item in vector)
        own, every, near, far, middle = [row in told for told in self.sets]
        if own:
            return None
        cases = [not every, near and not far, far and not near, middle, every and not near and not far,
                 near and far and not middle]
        assert sum(cases) == 1
        return self.moves[cases.index(True)]


def changed(numbers, move):
    told = dict(numbers)
    for kind in move[1]:
        told[kind] -= 1
    for kind in move[2]:
        told[kind] += 1
    return told


def places(triple, hand):
    """Values of words of a triple from which vectors of every place that point 49 names can be taken."""
    k, l = [Word(other) for other in "abc" if other != hand]
    own = Word(hand)
    for word in (own, own + k + l, own + k, own + l, own + (k & l), (own + k) & (own + l), k, l, k & l, k + l,
                 Word("1")):
        yield value(word, triple)


def drawn_of(random, space):
    """A drawn vector of a space, with items below 0 and beyond the prime."""
    total = [0] * space.length
    for row in space.basis():
        factor = random.randrange(space.prime)
        total = [x + factor * y for x, y in zip(total, row)]
    return [item + space.prime * random.randrange(-9, 9) for item in total]


class Moves(unittest.TestCase):
    def test_of_each_hand(self):
        for hand in "abc":
            told = moves(hand=hand)
            self.assertIs(type(told), list)
            self.assertTrue(is_like(told, MOVES[hand]))
            told.clear()
            self.assertEqual(moves(hand), MOVES[hand])

    def test_no_hand(self):
        for hand in ANY_VALUES:
            if not is_one_of(hand, "abc"):
                with self.assertRaises(NoHand) as caught:
                    moves(hand)
                self.assertTrue(is_like(caught.exception.hand, hand))


class Learn(unittest.TestCase):
    def check(self, triple, hand, vector, expected):
        before, kept = bases(triple), list(vector)
        told = learn(triple, hand, vector)
        self.assertIs(type(told), tuple)
        after, move = told
        self.assertTrue(is_like(move, expected), (before, hand, vector))
        self.assertEqual((bases(triple), list(vector)), (before, kept))
        self.assertIs(type(after), Triple)
        row = tuple(item % triple.prime for item in vector)
        for other in "abc":
            if other != hand:
                self.assertEqual(after[other], triple[other])
        self.assertEqual(after[hand], Space(triple.prime, triple.length, [*triple[hand].basis(), row]))
        numbers = nine_numbers(triple)
        self.assertEqual(nine_numbers(after), numbers if move is None else changed(numbers, move))
        return after

    def test_all_vectors_of_small_triples(self):
        random = Random(260)
        found = Counter()
        triples = [drawn_triple(random, prime, length) for prime, length in SMALL for _ in range(3)]
        triples += [mixed_triple(random, 2, {"plane": 1, kind: 1}) for kind in KINDS[:8]]
        triples += [mixed_triple(random, 2, {one: 1, other: 1}) for one, other in ("ab", "ac", "bc")]
        for triple in triples:
            for hand in "abc":
                expected, own = Expected(triple, hand), frozenset(triple[hand].vectors())
                for vector in all_vectors(triple.prime, triple.length):
                    move = expected.move(vector)
                    found[hand, move] += 1
                    if found[hand, move] < 9 or random.random() < 0.2:
                        after = self.check(triple, hand, vector, move)
                        self.assertEqual(frozenset(after[hand].vectors()), grown(triple.prime, own, vector))
        self.assertEqual(set(found), {(hand, move) for hand in "abc" for move in [None, *MOVES[hand]]})

    def test_vectors_in_every_place(self):
        random = Random(261)
        for prime in (2, 3, 5):
            found = Counter()
            for numbers in ({"plane": 1}, {"a": 1, "b": 1}, {"a": 1, "c": 1}, {"b": 1, "c": 1}, {"": 1, "ab": 1},
                            {"ac": 1, "bc": 1}, {"abc": 1, "": 1}):
                triple = mixed_triple(random, prime, numbers)
                for hand in "abc":
                    expected = Expected(triple, hand)
                    for vector in [drawn_of(random, space) for space in places(triple, hand) for _ in range(6)]:
                        move = expected.move(vector)
                        self.check(triple, hand, vector, move)
                        self.check(triple, hand, tuple(vector), move)
                        found[move] += 1
            self.assertEqual(set(found), {None, *ALL})

    def test_great_triples(self):
        random = Random(262)
        for at in range(60):
            triple = mixed_triple(random, PRIMES[at % 6], drawn_numbers(random, at % 13))
            for hand in "abc":
                vector = drawn_of(random, random.choice(list(places(triple, hand))))
                after, move = learn(triple=triple, hand=hand, vector=vector)
                self.check(triple, hand, vector, move)
                self.assertIs(move is None, vector in triple[hand])
                self.assertEqual(learn(after, hand, vector), (after, None))

    def test_dimensions_of_words(self):
        # The dimension of a word changes by the coefficients of the kinds that are taken and given.
        random = Random(263)
        for at in range(120):
            triple, word = mixed_triple(random, PRIMES[at % 6], drawn_numbers(random, at % 13)), drawn_word(random, 7)
            hand = random.choice("abc")
            after, move = learn(triple, hand, drawn_of(random, random.choice(list(places(triple, hand)))))
            table = coefficients(word)
            more = 0 if move is None else sum(table[kind] for kind in move[2]) - sum(table[kind] for kind in move[1])
            self.assertEqual(len(value(word, after)) - len(value(word, triple)), more)

    def test_errors(self):
        triple = triple_of(3, {"a": 1, "plane": 1})
        for hand in ANY_VALUES:
            if not is_one_of(hand, "abc"):
                for vector in ((0, 0, 1), (1,), None):
                    with self.assertRaises(NoHand) as caught:
                        learn(triple, hand, vector)
                    self.assertTrue(is_like(caught.exception.hand, hand))
        for vector in [*ANY_VALUES, (1, 2), (1, 2, 3, 4), [1, 2, True], (1, None, 0), [1, "2", 3], (1, (2,), 3),
                       [[1, 2, 3]]]:
            if is_one_of(vector, [["a", "b", "c"]]) or not isinstance(vector, (list, tuple)) or len(vector) < 9:
                with self.assertRaises(BadVector) as caught:
                    learn(triple, "a", vector)
                self.assertTrue(is_like(caught.exception.vector, vector))
        self.assertEqual(triple, triple_of(3, {"a": 1, "plane": 1}))


class Ways(unittest.TestCase):
    def check(self, triple, hand):
        before = bases(triple)
        told = ways(triple, hand)
        self.assertEqual(bases(triple), before)
        self.assertIs(type(told), dict)
        self.assertTrue(is_like(sorted(told, key=repr), sorted([*MOVES[hand], None], key=repr)))
        self.assertTrue(all(type(many) is int for many in told.values()))
        self.assertEqual(sum(told.values()), triple.prime ** triple.length)
        return told

    def test_against_all_vectors(self):
        random = Random(264)
        for prime, length in ((2, 0), (2, 1), (2, 3), (2, 5), (3, 2), (3, 3), (5, 2), (7, 2), (11, 1), (13, 1)):
            for _ in range(4):
                triple = drawn_triple(random, prime, length)
                for hand in "abc":
                    found = Counter(learn(triple, hand, vector)[1] for vector in all_vectors(prime, length))
                    self.assertEqual(self.check(triple, hand), {move: found[move] for move in [*MOVES[hand], None]})

    def test_all_triples_of_length_two(self):
        for sets in list(product(all_spans(2, 2), repeat=3))[::2]:
            triple = Triple(*[Space(2, 2, sorted(vectors)) for vectors in sets])
            for hand in "abc":
                expected = Expected(triple, hand)
                found = Counter(expected.move(vector) for vector in all_vectors(2, 2))
                self.assertEqual(self.check(triple, hand), {move: found[move] for move in [*MOVES[hand], None]})

    def test_great_triples(self):
        random = Random(265)
        for at in range(60):
            triple = mixed_triple(random, PRIMES[at % 6], drawn_numbers(random, at % 13))
            numbers = nine_numbers(triple)
            for hand in "abc":
                told = self.check(triple, hand)
                self.assertEqual(told[None], triple.prime ** len(triple[hand]))
                for move in MOVES[hand]:
                    self.assertIs(told[move] > 0, all(numbers[kind] > 0 for kind in move[1]))

    def test_new_dicts(self):
        triple = kind_triple(2, "plane")
        told = ways(triple=triple, hand="b")
        kept = dict(told)
        told.clear()
        self.assertEqual(ways(triple, "b"), kept)

    def test_no_hand(self):
        for hand in ANY_VALUES:
            if not is_one_of(hand, "abc"):
                with self.assertRaises(NoHand) as caught:
                    ways(kind_triple(2, "plane"), hand)
                self.assertTrue(is_like(caught.exception.hand, hand))


class VectorFor(unittest.TestCase):
    def check(self, triple):
        before, numbers = bases(triple), nine_numbers(triple)
        for move in ALL:
            vector = vector_for(triple, move)
            self.assertEqual(bases(triple), before)
            if any(numbers[kind] == 0 for kind in move[1]):
                self.assertIsNone(vector)
                continue
            self.assertIs(type(vector), tuple)
            self.assertEqual(len(vector), triple.length)
            self.assertTrue(all(type(item) is int and 0 <= item < triple.prime for item in vector))
            after, told = learn(triple, move[0], vector)
            self.assertEqual(told, move)
            self.assertEqual(nine_numbers(after), changed(numbers, move))
            if triple.prime ** triple.length < 20:
                self.assertEqual(Expected(triple, move[0]).move(vector), move)

    def test_mixed_and_drawn_triples(self):
        random = Random(266)
        for at in range(26):
            self.check(mixed_triple(random, PRIMES[at % 6], drawn_numbers(random, at % 13)))
            self.check(drawn_triple(random, PRIMES[at % 6], at % 6))
        for prime in PRIMES:
            self.check(mixed_triple(random, prime, dict.fromkeys(KINDS, 1)))

    def test_each_pair_of_kinds(self):
        for prime in (2, 3, 13):
            for one, other in product(KINDS, repeat=2):
                self.check(kind_triple(prime, one).beside(kind_triple(prime, other)))

    def test_bad_moves(self):
        triple = triple_of(2, dict.fromkeys(KINDS, 1))
        for move in NO_MOVE_VALUES:
            with self.subTest(move=move):
                with self.assertRaises(BadMove) as caught:
                    vector_for(triple=triple, move=move)
                self.assertTrue(is_like(caught.exception.move, move))


def drawn_row(random, numbers, most, wrong=0.0):
    """A drawn list of moves that can be made one after the other, but for some."""
    row = []
    for _ in range(random.randrange(most + 1)):
        fitting = [move for move in ALL if all(numbers[kind] > 0 for kind in move[1])]
        move = random.choice(ALL) if random.random() < wrong or not fitting else random.choice(fitting)
        row.append(move)
        numbers = changed(numbers, move)
        if min(numbers.values()) < 0:
            break
    return row


def spot_of(numbers, row):
    """The index of the first move that cannot be made, or None, and the numbers until then."""
    for at, move in enumerate(row):
        if any(numbers[kind] == 0 for kind in move[1]):
            return at, numbers
        numbers = changed(numbers, move)
    return None, numbers


class Moved(unittest.TestCase):
    def test_rows_of_moves(self):
        random = Random(267)
        found = Counter()
        for at in range(400):
            numbers = drawn_numbers(random, at % 13)
            row = drawn_row(random, numbers, 12, 0.05)
            few = {kind: many for kind, many in numbers.items() if many > 0 or random.random() < 0.5}
            kept, listed = list(few.items()), list(row)
            spot, after = spot_of(numbers, row)
            found[spot is None] += 1
            if spot is None:
                told = moved(numbers=few, row=row)
                self.assertTrue(is_like(told, {kind: after[kind] for kind in KINDS}))
                self.assertEqual(moved(numbers, tuple(row)), told)
            else:
                with self.assertRaises(Barred) as caught:
                    moved(few, row)
                self.assertTrue(is_like(caught.exception.spot, spot))
            self.assertEqual((list(few.items()), row), (kept, listed))
        self.assertGreater(min(found.values()), 40)

    def test_the_empty_row(self):
        self.assertTrue(is_like(moved({}, []), dict.fromkeys(KINDS, 0)))
        self.assertTrue(is_like(moved({"plane": 20, "a": 3}, ()), dict.fromkeys(KINDS, 0) | {"a": 3, "plane": 20}))

    def test_barred(self):
        for move in ALL:
            few = dict.fromkeys(move[1], 1)
            self.assertEqual(moved(few, [move]), dict.fromkeys(KINDS, 0) | dict.fromkeys(move[2], 1))
            for row, spot in (([move, move], 1), ([move] * 5, 1)):
                with self.assertRaises(Barred) as caught:
                    moved(few, row)
                self.assertEqual(caught.exception.spot, spot)
            for kind in move[1]:
                with self.assertRaises(Barred) as caught:
                    moved(dict.fromkeys(KINDS, 20) | {kind: 0}, [move])
                self.assertEqual(caught.exception.spot, 0)

    def test_errors_in_their_order(self):
        good = ("a", ("",), ("a",))
        for numbers in ({"no": 1}, {"a": -1}, {"a": True}, {None: 1}, {"a": 1, "plane": "1"}):
            for row in ([], [good], [None], [good, good]):
                with self.assertRaises(BadNumbers):
                    moved(numbers, row)
        for move in NO_MOVE_VALUES:
            for row in ([move], [good, move], [good, good, move, None], [move, ("x", (), ())]):
                with self.assertRaises(BadMove) as caught:
                    moved({}, row)
                self.assertTrue(is_like(caught.exception.move, move))


class Teaching(unittest.TestCase):
    def test_rows_of_moves(self):
        random = Random(268)
        found = Counter()
        for at in range(100):
            triple = mixed_triple(random, PRIMES[at % 6], drawn_numbers(random, at % 9))
            row = drawn_row(random, nine_numbers(triple), 7, 0.05)
            before, listed = bases(triple), list(row)
            spot, _ = spot_of(nine_numbers(triple), row)
            found[spot is None] += 1
            if spot is None:
                self.brings_about(triple, row, teaching(triple, row))
            else:
                with self.assertRaises(Barred) as caught:
                    teaching(triple, row)
                self.assertEqual(caught.exception.spot, spot)
            self.assertEqual((bases(triple), row), (before, listed))
        self.assertGreater(min(found.values()), 8)

    def brings_about(self, triple, row, steps):
        self.assertIs(type(steps), list)
        self.assertEqual([hand for hand, _ in steps], [move[0] for move in row])
        for (hand, vector), move in zip(steps, row):
            self.assertIs(type(vector), tuple)
            triple, told = learn(triple, hand, vector)
            self.assertEqual(told, move)

    def test_the_longest_row(self):
        for prime in PRIMES:
            triple = triple_of(prime, {"": 4})
            row = between({"": 4}, {"abc": 4})
            self.brings_about(triple, row, teaching(triple=triple, row=tuple(row)))
        self.assertEqual(teaching(triple_of(2, {}), []), [])

    def test_errors_in_their_order(self):
        triple, good = triple_of(3, {"b": 1}), ("a", ("",), ("a",))
        for move in NO_MOVE_VALUES:
            for row in ([move], [good, move], [good, move, None]):
                with self.assertRaises(BadMove) as caught:
                    teaching(triple, row)
                self.assertTrue(is_like(caught.exception.move, move))
        for row, spot in (([good], 0), ([("a", ("b",), ("ab",)), good], 1), ([("c", ("b",), ("bc",))] * 2, 1)):
            with self.assertRaises(Barred) as caught:
                teaching(triple, row)
            self.assertEqual(caught.exception.spot, spot)


def reached(numbers):
    """All nine numbers that moves lead to, with the number of moves."""
    start = tuple(numbers.get(kind, 0) for kind in KINDS)
    found, new = {start: 0}, [start]
    while new:
        told = new.pop(0)
        table = dict(zip(KINDS, told))
        for move in ALL:
            if all(table[kind] > 0 for kind in move[1]):
                after = tuple(changed(table, move).values())
                if after not in found:
                    found[after] = found[told] + 1
                    new.append(after)
    return found


class Searches(unittest.TestCase):
    def leads(self, numbers, row):
        self.assertIs(type(row), list)
        spot, after = spot_of({kind: numbers.get(kind, 0) for kind in KINDS}, row)
        self.assertIsNone(spot)
        return tuple(after[kind] for kind in KINDS)

    def test_fewest(self):
        random = Random(269)
        found = Counter()
        for at in range(120):
            numbers = drawn_numbers(random, at % 5)
            terms = [drawn_terms(random, 4, 3, 2) for _ in range(random.randrange(5))]
            if at % 3 == 0:
                # All together have to know at least so much.
                terms = [[(1, ("&", "a", ("&", "b", "c"))), (-1, "1")]] + [[(2, "a"), (-1, "1")]] * (at % 2)
            claims, tables = [Claim(made_terms(told)) for told in terms], [sums(told) for told in terms]
            few = {kind: many for kind, many in numbers.items() if many > 0}
            row = fewest(few, claims)
            self.assertEqual(few, {kind: many for kind, many in numbers.items() if many > 0})
            good = [many for after, many in reached(numbers).items()
                    if all(sum(table[kind] * count for kind, count in zip(KINDS, after)) >= 0 for table in tables)]
            found[min(good) if good else None] += 1
            if not good:
                self.assertIsNone(row)
                continue
            self.assertEqual(len(row), min(good))
            after = dict(zip(KINDS, self.leads(numbers, row)))
            self.assertTrue(all(claim.total(after) >= 0 for claim in claims))
        self.assertGreater(len(found), 4)
        self.assertGreater(found[None], 5)

    def test_between(self):
        random = Random(270)
        found = Counter()
        for at in range(120):
            numbers = drawn_numbers(random, at % 5)
            table = reached(numbers)
            goals = [dict(zip(KINDS, random.choice(list(table)))), drawn_numbers(random, at % 5),
                     drawn_numbers(random, random.randrange(5)), numbers]
            for goal in goals:
                wanted = tuple(goal[kind] for kind in KINDS)
                few = {kind: many for kind, many in goal.items() if many > 0 or random.random() < 0.5}
                row = between(numbers, few)
                found[row is None] += 1
                if wanted not in table:
                    self.assertIsNone(row)
                    continue
                self.assertEqual(self.leads(numbers, row), wanted)
                self.assertEqual(len(row), table[wanted])
                if row:
                    self.assertIsNone(between(goal, numbers))
        self.assertGreater(min(found.values()), 60)

    def test_told_ones(self):
        self.assertEqual(between({}, {}), [])
        self.assertEqual(between(numbers={"a": 1, "plane": 1}, goal={"plane": 1, "a": 1, "b": 0}), [])
        self.assertEqual(between({"": 1}, {"b": 1}), [("b", ("",), ("b",))])
        self.assertEqual(len(between({"": 4}, {"abc": 4})), 12)
        for one, other in (({"a": 1}, {"": 1}), ({"a": 1}, {"a": 2}), ({}, {"": 1}), ({"plane": 1}, {"b": 1, "c": 1}),
                           ({"": 2}, {"plane": 2}), ({"a": 1}, {"b": 1})):
            self.assertIsNone(between(one, other))
        self.assertEqual(fewest({"a": 1}, []), [])
        self.assertEqual(fewest(numbers={"": 1}, claims=[Claim.read("1 |a|, -1 |1|")]), [("a", ("",), ("a",))])
        self.assertIsNone(fewest({"a": 1}, [Claim.read("-1 |a|")]))
        self.assertEqual(fewest({}, [Claim.read("-5 |1|")]), [])

    def test_bad_numbers(self):
        wrong = [{"no": 1}, {"a": -1}, {"a": True}, {None: 1}, {"a": 1, "plane": "1"}, {("a",): 1}, {"ba": 0}]
        for numbers in wrong:
            with self.assertRaises(BadNumbers):
                fewest(numbers, [])
            for goal in ({}, {"a": 1}, {"a": -1}):
                with self.assertRaises(BadNumbers):
                    between(numbers, goal)
                with self.assertRaises(BadNumbers):
                    between({"a": 1}, numbers)

    def test_new_lists(self):
        told = between({"": 1}, {"a": 1})
        told.clear()
        self.assertEqual(len(between({"": 1}, {"a": 1})), 1)


if __name__ == "__main__":
    unittest.main()

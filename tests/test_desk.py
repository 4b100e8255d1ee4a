import unittest
from collections import Counter
from random import Random

from brute import all_vectors, tree_value
from desks import Case, Model, drawn_desk, drawn_vector
from drawn import KINDS, PRIMES, drawn_word, made
from trees import drawn_tree
from values import ANY_VALUES, is_like, is_one_of

from handspaces.desk import Desk
from handspaces.errors import BadLength, BadPrime, BadVector, HandError, NoHand, NothingToRedo, NothingToUndo
from handspaces.spaces import Space
from handspaces.triples import value
from handspaces.words import Word

HANDS = [hands for hands in ("a", "b", "c", "ab", "ba", "ac", "ca", "bc", "cb",
                             "abc", "acb", "bac", "bca", "cab", "cba")]
NO_PRIMES = [0, 1, 4, 9, 14, -2, True, None, "2", [2], (2,), {}]
NO_HANDS = [*ANY_VALUES, "d", "A", "aa", "aba", "abcc", "abca", "abcd", " a", "a b", "bb", ["a", "b"], ("a", "b"),
            "abd"]


class Deeds(Case):
    def test_rows_of_deeds(self):
        random = Random(280)
        found = Counter()
        for at in range(60):
            prime, length = PRIMES[at % 6], at % 13
            desk, model = Desk(prime, length), Model(prime, length)
            for _ in range(20):
                found[self.deed(random, desk, model)] += 1
                self.same(desk, model)
            self.can_redo(desk, model)
        self.assertGreater(min(found.values()), 200)

    def test_at_first(self):
        for prime in PRIMES:
            for length in (0, 1, 12):
                desk = Desk(prime=prime, length=length)
                self.same(desk, Model(prime, length))
                self.assertEqual(desk.text(), f"{prime} {length}")
                with self.assertRaises(NothingToUndo):
                    desk.undo()
                with self.assertRaises(NothingToRedo):
                    desk.redo()

    def test_a_step_with_nothing_new(self):
        desk = Desk(3, 2)
        self.assertEqual(desk.learn("a", (1, 1)), ("a", ("",), ("a",)))
        self.assertIsNone(desk.learn("a", (2, 2)))
        self.assertIsNone(desk.learn(hand="b", vector=[0, 3]))
        self.assertEqual(desk.steps(), [("a", (1, 1)), ("a", (2, 2)), ("b", (0, 0))])
        desk.undo()
        desk.undo()
        self.assertEqual((len(desk), len(desk.triple().a)), (1, 1))
        desk.redo()
        self.assertEqual(desk.steps()[-1], ("a", (2, 2)))

    def test_a_step_behind_one_that_was_taken_back(self):
        desk = Desk(2, 2)
        for vector in ((1, 0), (0, 1)):
            desk.learn("a", vector)
        desk.undo()
        desk.learn("b", (1, 1))
        with self.assertRaises(NothingToRedo):
            desk.redo()
        self.assertEqual(desk.steps(), [("a", (1, 0)), ("b", (1, 1))])
        desk.undo()
        desk.redo()
        desk.undo()
        # One with nothing new is a step as well.
        desk.learn("a", (1, 0))
        with self.assertRaises(NothingToRedo):
            desk.redo()

    def test_length_zero(self):
        desk = Desk(5, 0)
        for hand in "abc":
            self.assertIsNone(desk.learn(hand, []))
            self.assertIsNone(desk.learn(hand, ()))
        self.assertEqual((len(desk), desk.text()), (6, "5 0\na\na\nb\nb\nc\nc"))

    def test_new_answers(self):
        desk, model = drawn_desk(Random(281), 3, 3, 5)
        desk.steps().clear(), desk.numbers().clear(), desk.tellers((0, 0, 0)).clear()
        self.same(desk, model)
        self.assertEqual(desk.tellers((0, 0, 0)), [""])

    def test_vectors_are_copied(self):
        desk, vector = Desk(3, 2), [1, 5]
        desk.learn("a", vector)
        vector[0] = 0
        self.assertEqual(desk.steps(), [("a", (1, 2))])

    def test_two_desks(self):
        one, other = Desk(3, 2), Desk(3, 2)
        one.learn("a", (1, 0))
        self.assertEqual((len(one), len(other)), (1, 0))


class Refused(Case):
    def test_no_desk(self):
        for prime in NO_PRIMES:
            for length in (1, 13, None):
                with self.assertRaises(BadPrime) as caught:
                    Desk(prime, length)
                self.assertTrue(is_like(caught.exception.told, prime))
        for length in [*[told for told in ANY_VALUES if not is_one_of(told, range(13))], 13, -1, True]:
            with self.assertRaises(BadLength) as caught:
                Desk(2, length)
            self.assertTrue(is_like(caught.exception.told, length))

    def test_an_error_changes_nothing(self):
        random = Random(282)
        for at in range(20):
            desk, model = drawn_desk(random, PRIMES[at % 6], 2, 6)
            for _ in range(at % 4):
                desk.undo()
                model.undo()
            for hand in NO_HANDS:
                if not is_one_of(hand, "abc"):
                    for vector in ((1, 2), (1,), None):
                        with self.assertRaises(NoHand) as caught:
                            desk.learn(hand, vector)
                        self.assertTrue(is_like(caught.exception.hand, hand))
            for vector in [*ANY_VALUES, (1,), (1, 2, 3), [1, True], (None, 1), [[1, 2]], {1: 2}]:
                if not is_one_of(vector, [(1, 2)]):
                    for ask in (lambda: desk.learn("a", vector), lambda: desk.knows("ab", vector),
                                lambda: desk.tellers(vector)):
                        with self.assertRaises(BadVector) as caught:
                            ask()
                        self.assertTrue(is_like(caught.exception.vector, vector))
            self.same(desk, model)
            self.can_redo(desk, model)


class Knowing(Case):
    def test_knows(self):
        random = Random(283)
        for at in range(40):
            desk, model = drawn_desk(random, PRIMES[at % 6], at % 7, at % 9)
            triple = model.triple()
            for hands in HANDS:
                known = value(made("".join(hands) if len(hands) == 1 else self.sum_of(hands)), triple)
                for _ in range(3):
                    vector = drawn_vector(random, triple.prime, triple.length, [row for _, row in model.made])
                    told = desk.knows(hands=hands, vector=vector)
                    self.assertIs(told, vector in known)
            self.same(desk, model)

    def sum_of(self, hands):
        tree = hands[0]
        for hand in hands[1:]:
            tree = ("+", tree, hand)
        return tree

    def test_small_desks_with_sets_of_vectors(self):
        random = Random(284)
        found = Counter()
        for prime, length in ((2, 0), (2, 1), (2, 2), (2, 3), (3, 2), (5, 2), (13, 1)):
            for _ in range(8):
                desk, model = drawn_desk(random, prime, length, random.randrange(6))
                sets = {hand: frozenset(model.triple()[hand].vectors()) for hand in "abc"}
                known = {hands: tree_value(prime, length, self.sum_of(hands) if hands else "0", sets)
                         for hands in KINDS[:8]}
                for vector in all_vectors(prime, length):
                    for hands in HANDS:
                        self.assertIs(desk.knows(hands, vector), vector in known["".join(sorted(hands))])
                    expected = [hands for hands in KINDS[:8] if vector in known[hands] and not any(
                        vector in known[part] for part in KINDS[:8] if set(part) < set(hands))]
                    told = desk.tellers(vector)
                    self.assertTrue(is_like(told, expected), (model.text(), vector))
                    found[tuple(told)] += 1
        self.assertGreater(len(found), 12)
        self.assertIn((), found)

    def test_told_ones(self):
        desk = Desk(3, 2)
        self.assertEqual(desk.tellers(vector=(0, 3)), [""])
        self.assertEqual(desk.tellers([1, 0]), [])
        for hand, vector in (("c", (1, 1)), ("b", (0, 1)), ("a", (1, 0))):
            desk.learn(hand, vector)
        self.assertEqual(desk.tellers((1, 1)), ["c", "ab"])
        self.assertEqual(desk.tellers((1, 2)), ["ab", "ac", "bc"])
        self.assertEqual(desk.tellers((0, 0)), [""])
        self.assertTrue(desk.knows("ba", (4, -5)))
        self.assertFalse(desk.knows("a", (4, -5)))
        wide = Desk(2, 3)
        for hand, vector in (("a", (1, 0, 0)), ("b", (0, 1, 0)), ("c", (0, 0, 1))):
            wide.learn(hand, vector)
        self.assertEqual(wide.tellers((1, 1, 1)), ["abc"])
        self.assertEqual(wide.tellers((1, 0, 1)), ["ac"])

    def test_no_hands(self):
        desk = Desk(2, 2)
        for hands in NO_HANDS:
            if not is_one_of(hands, HANDS):
                for vector in ((1, 0), (1,), None):
                    with self.subTest(hands=hands):
                        with self.assertRaises(NoHand) as caught:
                            desk.knows(hands, vector)
                        self.assertTrue(is_like(caught.exception.hand, hands))


class Trials(Case):
    def test_the_desk_afterwards_is_as_before(self):
        random = Random(285)
        for at in range(60):
            desk, model = drawn_desk(random, PRIMES[at % 6], at % 5, at % 7)
            for _ in range(random.randrange(len(model.made) + 1)):
                desk.undo()
                model.undo()
            within = model.copy()
            with desk.trial() as trial:
                self.assertIs(trial, desk)
                self.same(trial, within)
                for _ in range(random.randrange(8)):
                    self.deed(random, desk, within)
                    self.same(desk, within)
            self.same(desk, model)
            self.can_redo(desk, model)

    def test_by_an_error(self):
        random = Random(286)
        for error in (KeyError, HandError, NothingToUndo, KeyboardInterrupt):
            desk, model = drawn_desk(random, 3, 3, 4)
            desk.undo()
            model.undo()
            with self.assertRaises(error):
                with desk.trial():
                    desk.learn("a", (1, 1, 1))
                    desk.undo(), desk.undo()
                    raise error()
            self.same(desk, model)
            self.can_redo(desk, model)
        with self.assertRaises(BadVector):
            with desk.trial() as trial:
                trial.learn("b", (1, 0, 0))
                trial.learn("b", (1, 0))
        self.same(desk, model)

    def test_within_one_another(self):
        random = Random(287)
        for at in range(40):
            desk, model = drawn_desk(random, PRIMES[at % 6], at % 4, 3)
            outer = model.copy()
            with desk.trial():
                for _ in range(4):
                    self.deed(random, desk, outer)
                inner = outer.copy()
                with desk.trial() as trial:
                    for _ in range(5):
                        self.deed(random, trial, inner)
                    deepest = inner.copy()
                    with trial.trial():
                        self.deed(random, desk, deepest)
                        self.deed(random, desk, deepest)
                    self.same(desk, inner)
                    self.can_redo(desk, inner)
                self.same(desk, outer)
                self.deed(random, desk, outer)
                self.same(desk, outer)
            self.same(desk, model)
            self.can_redo(desk, model)

    def test_one_behind_another(self):
        desk = Desk(2, 1)
        for _ in range(3):
            with desk.trial():
                desk.learn("a", (1,))
                self.assertEqual(len(desk), 1)
            self.assertEqual(len(desk), 0)
        desk.learn("b", (1,))
        self.assertEqual(desk.steps(), [("b", (1,))])

    def test_it_begins_with_the_block(self):
        desk = Desk(2, 1)
        trial = desk.trial()
        desk.learn("a", (1,))
        with trial:
            desk.undo()
            desk.learn("b", (1,))
        self.assertEqual(desk.steps(), [("a", (1,))])

    def test_supposed(self):
        random = Random(288)
        for at in range(80):
            desk, model = drawn_desk(random, PRIMES[at % 6], at % 7, at % 6)
            for _ in range(random.randrange(len(model.made) + 1)):
                desk.undo()
                model.undo()
            further, word = model.copy(), drawn_word(random, 6)
            steps = [(random.choice("abc"), drawn_vector(random, desk.triple().prime, desk.triple().length))
                     for _ in range(at % 5)]
            for hand, vector in steps:
                further.learn(hand, vector)
            kept = [(hand, list(vector)) for hand, vector in steps]
            told = desk.supposed(steps=steps, word=word)
            self.assertIs(type(told), Space)
            self.assertEqual(told, value(word, further.triple()))
            self.assertEqual(desk.supposed(tuple(steps), word), told)
            self.assertEqual([(hand, list(vector)) for hand, vector in steps], kept)
            self.same(desk, model)
            self.can_redo(desk, model)

    def test_supposed_with_a_step_that_is_refused(self):
        desk, model = drawn_desk(Random(289), 3, 2, 4)
        desk.undo()
        model.undo()
        good, word = ("a", (1, 2)), Word.read("a + b")
        for hand in NO_HANDS:
            if not is_one_of(hand, "abc"):
                for steps in ([(hand, (1, 2))], [good, (hand, None)], [good, good, (hand, (1,)), ("a", None)]):
                    with self.assertRaises(NoHand) as caught:
                        desk.supposed(steps, word)
                    self.assertTrue(is_like(caught.exception.hand, hand))
        for vector in [*ANY_VALUES, (1,), (1, True)]:
            for steps in ([("b", vector)], [good, ("c", vector), ("d", (1, 2)), ("a", [])]):
                with self.assertRaises(BadVector) as caught:
                    desk.supposed(steps, word)
                self.assertTrue(is_like(caught.exception.vector, vector))
        self.same(desk, model)
        self.can_redo(desk, model)

    def test_supposed_word_of_24_letters(self):
        random = Random(290)
        desk, model = drawn_desk(random, 5, 5, 9)
        for _ in range(20):
            word = made(drawn_tree(random, 24))
            self.assertEqual(desk.supposed([], word), value(word, model.triple()))


if __name__ == "__main__":
    unittest.main()

import unittest
from random import Random

from drawn import KINDS, drawn_word, made
from trees import all_trees, drawn_tree

from handspaces.classes import below, breach, marks, parting, plain, plain_words, same
from handspaces.spaces import Space
from handspaces.triples import kind_triple, value
from handspaces.words import Word

TEXTS = [
    "0", "a & b & c", "a & b", "a & c", "b & c", "a & b + a & c", "a & b + b & c", "a & c + b & c",
    "a & b + a & c + b & c", "a & (b + c)", "b & (a + c)", "c & (a + b)", "a & (b + c) + b & c", "b & (a + c) + a & c",
    "c & (a + b) + a & b", "(a + b) & (a + c) & (b + c)", "a", "b", "c", "a + b & c", "b + a & c", "c + a & b",
    "(a + b) & (a + c)", "(a + b) & (b + c)", "(a + c) & (b + c)", "a + b", "a + c", "b + c", "a + b + c", "1",
]
# Pairs that are the same in all triples though they are written otherwise.
SAME = [
    ("a + b", "b + a"), ("a & b", "b & a"), ("a + (b + c)", "c + b + a"), ("a & (b & c)", "c & b & a"), ("a + a", "a"),
    ("a & a", "a"), ("a + 0", "a"), ("a & 1", "a"), ("a & 0", "0"), ("a + 1", "1"), ("a & (a + b)", "a"),
    ("a + a & b", "a"), ("a & (b + a & c)", "a & b + a & c"), ("a + b & (a + c)", "(a + b) & (a + c)"),
    ("0 + 1", "1"), ("0 & 1", "0"), ("a & (b + c) & (b + a & c)", "a & b + a & c"),
    ("a & (b + c) + b & (a + c)", "(a + b) & (a + c) & (b + c)"),
    ("a & (b + c) + b & (a + c) + c & (a + b)", "(a & (b + c) + b) & ((a + c) & (b + c) + a)"),
]


def values(word, prime):
    """The values of a word in the nine triples of the kinds."""
    return [value(word, kind_triple(prime, kind)) for kind in KINDS]


def first_kind(one, other, holds):
    """The first kind on which something does not hold of the values of two words."""
    for kind, first, second in zip(KINDS, values(one, 3), values(other, 3)):
        if not holds(first, second):
            return kind
    return None


def is_equal(one, other):
    return one == other


def is_within(one, other):
    return one <= other


def some_words(random, many):
    small = [made(tree) for size in (1, 2) for tree in all_trees(size, "abc01")]
    return small + [drawn_word(random, 24 if at % 5 == 0 else 7) for at in range(many)]


class Marks(unittest.TestCase):
    def expected(self, word):
        told = {}
        for kind in KINDS[:8]:
            told[kind] = len(value(word, kind_triple(5, kind)))
        spaces = {"0": [], "a": [(1, 0)], "b": [(0, 1)], "c": [(1, 1)], "1": [(1, 0), (0, 1)]}
        on_plane = value(word, kind_triple(5, "plane"))
        told["plane"], = [sign for sign, rows in spaces.items() if Space(5, 2, rows) == on_plane]
        return told

    def test_against_values(self):
        for word in some_words(Random(60), 200):
            before = word.text()
            told = marks(word)
            self.assertEqual(list(told.items()), list(self.expected(word).items()))
            self.assertTrue(all(type(told[kind]) is int for kind in KINDS[:8]))
            self.assertIs(type(told["plane"]), str)
            self.assertEqual(word.text(), before)

    def test_told_ones(self):
        self.assertEqual(marks(Word("a")), {
            "": 0, "a": 1, "b": 0, "c": 0, "ab": 1, "ac": 1, "bc": 0, "abc": 1, "plane": "a"})
        self.assertEqual(marks(Word("0")), dict.fromkeys(KINDS, 0) | {"plane": "0"})
        self.assertEqual(marks(Word("1")), dict.fromkeys(KINDS, 1) | {"plane": "1"})
        self.assertEqual(marks(Word.read("b + c")), {
            "": 0, "a": 0, "b": 1, "c": 1, "ab": 1, "ac": 1, "bc": 1, "abc": 1, "plane": "1"})
        self.assertEqual(marks(Word.read("c & (a + b)"))["plane"], "c")
        self.assertEqual(marks(Word.read("a & b + c & b"))["plane"], "0")

    def test_24_letters(self):
        random = Random(61)
        for _ in range(60):
            word = made(drawn_tree(random, 24, "abc"))
            self.assertEqual(marks(word), self.expected(word))

    def test_new_dicts(self):
        word = Word.read("a + b & c")
        told = marks(word)
        kept = dict(told)
        told["a"] = 5
        del told["plane"]
        self.assertEqual(marks(word=word), kept)


class Compared(unittest.TestCase):
    def check(self, one, other):
        unlike, out = first_kind(one, other, is_equal), first_kind(one, other, is_within)
        self.assertEqual(parting(one, other), unlike, (one.text(), other.text()))
        self.assertEqual(breach(one, other), out, (one.text(), other.text()))
        self.assertIs(same(one, other), unlike is None)
        self.assertIs(below(one, other), out is None)

    def test_drawn_words(self):
        random = Random(62)
        for one, other in zip(some_words(random, 120), some_words(random, 120)[::-1]):
            both = one & other
            for pair in ((one, other), (other, one), (one, one), (one, both), (both, one), (one + other, one)):
                self.check(*pair)

    def test_the_thirty(self):
        words = [Word.read(text) for text in TEXTS]
        for at, one in enumerate(words):
            for place, other in enumerate(words):
                self.assertIs(same(one, other), at == place)
                self.check(one, other)

    def test_each_kind_is_told(self):
        for texts, told in (
            (("a", "1"), ""), (("a", "0"), "a"), (("b", "0"), "b"), (("c", "0"), "c"), (("a & b", "0"), "ab"),
            (("c & a", "0"), "ac"), (("b & c", "0"), "bc"), (("a & b & c", "0"), "abc"),
            (("a & (b + c)", "a & b + a & c"), "plane"), (("a", "b"), "a"), (("b", "c"), "b"), (("a + b", "a"), "b"),
        ):
            one, other = [Word.read(text) for text in texts]
            self.assertEqual(parting(one, other), told)
            self.assertEqual(parting(one=other, other=one), told)
        for texts, told in (
            (("1", "a + b + c"), ""), (("a", "b + c"), "a"), (("b", "a + c"), "b"), (("c", "a + b"), "c"),
            (("a & b", "c"), "ab"), (("a & c", "b"), "ac"), (("b & c", "a"), "bc"), (("a & b & c", "0"), "abc"),
            (("(a + b) & (a + c)", "a + b & c"), "plane"),
        ):
            one, other = [Word.read(text) for text in texts]
            self.assertEqual(breach(one=one, other=other), told)
            self.assertFalse(below(one=one, other=other))
            self.assertTrue(below(other & one, other))

    def test_written_otherwise(self):
        for one, other in SAME:
            self.assertTrue(same(Word.read(one), Word.read(other)), (one, other))
            for order in ("abc", "bca", "cba"):
                for first, second in ((one, other), (other, one)):
                    words = Word.read(first).swapped(order), Word.read(second).swapped(order)
                    self.assertIsNone(parting(*words))
                    self.assertIsNone(breach(*words))
                    self.assertIsNone(parting(words[0].dual(), words[1].dual()))
                    self.check(*words)

    def test_one_letter_exchanged(self):
        random = Random(63)
        for _ in range(200):
            text = drawn_word(random, 8).text()
            at = random.choice([place for place, sign in enumerate(text) if sign in "abc01"])
            other = text[:at] + random.choice("abc01") + text[at + 1:]
            self.check(Word.read(text), Word.read(other))

    def test_words_stay(self):
        one, other = Word.read("a & (b + c)"), Word.read("a + b")
        parting(one, other), breach(one, other), same(one, other), below(one, other)
        self.assertEqual((one.text(), other.text()), ("a & (b + c)", "a + b"))


class Plain(unittest.TestCase):
    def test_the_thirty(self):
        words = plain_words()
        self.assertIs(type(words), list)
        self.assertEqual([word.text() for word in words], TEXTS)
        self.assertEqual(words, [Word.read(text) for text in TEXTS])
        on_kinds = [[space.text() for space in values(word, 7)] for word in words]
        for at, told in enumerate(on_kinds):
            self.assertEqual(on_kinds.index(told), at)

    def test_each_is_its_own(self):
        for word in plain_words():
            self.assertEqual(plain(word), word)

    def test_sums_and_intersections_of_two(self):
        words = plain_words()
        for one in words:
            for other in words:
                for word in (one + other, one & other):
                    told = plain(word)
                    self.assertIn(told, words)
                    self.assertEqual(marks(told), marks(word))

    def test_drawn_words(self):
        random = Random(64)
        found = {}
        for word in some_words(random, 300):
            before = word.text()
            told = plain(word=word)
            found[told.text()] = True
            self.assertIn(told.text(), TEXTS)
            self.assertEqual(values(told, 2), values(word, 2))
            self.assertEqual(word.text(), before)
        self.assertGreater(len(found), 20)

    def test_24_letters(self):
        random = Random(65)
        for _ in range(60):
            word = made(drawn_tree(random, 24, "abc"))
            self.assertEqual(values(plain(word), 11), values(word, 11))

    def test_new_lists(self):
        words = plain_words()
        words.clear()
        self.assertEqual([word.text() for word in plain_words()], TEXTS)


if __name__ == "__main__":
    unittest.main()

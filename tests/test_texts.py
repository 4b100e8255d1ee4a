import unittest
from itertools import product
from random import Random

from brute import all_spans
from handspaces.errors import BadText
from handspaces.spaces import Space

PRIMES = (2, 3, 5, 7, 11, 13)

NO_TEXTS = [
    "", " ", "\n", ";", "; ", "3", "3 ", " 3", "3 2 1", "a b", "3 b", "three 2",
    # spaces and line feeds where none belong, or none where they do
    "3  2", " 3 2", "3 2 ", "3 2\n", "\n3 2", "3\n2", "3 2;", "3 2; ", "3 2;1 1", "3 2;  1 1", "3 2 ; 1 1",
    "3 2; 1  1", "3 2; 1 1 ", "3 2; 1 1\n", "3 2;\n1 1", "3 2; 1\n1", " 3 2; 1 1", "3 2; 1 1;", "3 2; 1 1; ",
    "3 2; ; 1 1", "3 2;; 1 1", "3\t2", "3 2, 1 1", "3 2; 1, 1", "32", "3 2; 11",
    # signs, needless zeros and other ways to write a number
    "+3 2", "-3 2", "3 +2", "3 -2", "3 -0", "03 2", "3 02", "3 00", "3 2; 01 1", "3 2; 1 00", "3 2; 1 +1",
    "3 2; 1 -1", "3 2; -0 1", "3.0 2", "3 2.", "0x3 2", "1_1 2", "3 2; 1 1_0", "3 2; 1 0b1", "(3, 2)", "3 2; (1, 1)",
    "11 1_2", "3 2; 1 ", "3 2;  1", "3 \u0662", "3 \u00b2", "\uff13 2",
    # items at or above the prime
    "3 2; 1 3", "3 2; 1 4", "3 2; 4 0", "2 2; 1 2", "13 2; 1 13", "3 2; 1 100", "3 2; 1 10000000000000000000000",
    # no reduced basis, or not in its order
    "3 2; 2 2", "3 2; 0 2", "5 2; 3 1", "3 2; 1 1; 0 1", "3 2; 0 1; 1 0", "3 2; 1 0; 1 1", "3 2; 1 1; 1 1",
    "3 2; 1 0; 0 1; 0 1", "3 3; 1 0 0; 0 1 1; 0 0 1", "3 3; 0 0 1; 1 0 0", "3 2; 1 1; 2 2",
    # vectors of zeros
    "3 2; 0 0", "3 2; 1 1; 0 0", "3 2; 0 0; 1 1", "3 1; 0",
    # a wrong number of items
    "3 2; 1", "3 2; 1 0 0", "3 2; 1 0; 0 1 0", "3 2; 1 0; 1", "3 1; 1 0", "3 0; 0", "3 0; 1", "3 0; ", "3 0;",
    # no prime, or no length
    "0 2", "1 2", "4 2", "6 2", "9 2", "14 2", "17 2", "23 2", "3 13", "3 20", "3 99", "2 -1", "3 100", "100 3",
    "4 2; 1 1", "3 13; 1 0 0 0 0 0 0 0 0 0 0 0 0", "1 0", "0 0", "33333333333333333333 2", "3 " + "1" * 490,
    # texts of two spaces, or of something else
    "3 2\n3 2", "3 2; 1 1\n3 2; 1 1", "Space(3, 2)", "None", "True", "3 2; a b", "~!#",
]


class Texts(unittest.TestCase):
    def test_examples(self):
        self.assertEqual(Space.whole(3, 2).text(), "3 2; 1 0; 0 1")
        self.assertEqual(Space(13, 3, [(1, 12, 10)]).text(), "13 3; 1 12 10")
        self.assertEqual(Space(2, 1, [(2,)]).text(), "2 1")
        self.assertEqual(Space.read("3 2; 1 1").basis(), [(1, 1)])

    def test_every_prime_and_the_lengths_at_the_limits(self):
        for prime in PRIMES:
            self.assertEqual(Space(prime, 0).text(), f"{prime} 0")
            self.assertEqual(Space(prime, 12).text(), f"{prime} 12")
            units = [" ".join("1" if i == j else "0" for j in range(12)) for i in range(12)]
            self.assertEqual(Space.whole(prime, 12).text(), "; ".join([f"{prime} 12", *units]))
            for space in (Space(prime, 0), Space(prime, 12), Space.whole(prime, 12), Space.whole(prime, 1)):
                self.assertEqual(Space.read(space.text()), space)

    def test_read_every_small_space(self):
        for prime, length in ((2, 4), (3, 3), (5, 2), (13, 1)):
            for vectors in all_spans(prime, length):
                space = Space(prime, length, sorted(vectors))
                parts = [(prime, length), *space.basis()]
                text = "; ".join(" ".join(str(item) for item in part) for part in parts)
                self.assertEqual(space.text(), text)
                self.assertEqual(Space.read(text), space)

    def test_read_great_spaces(self):
        random = Random(8)
        for prime in PRIMES:
            for many in range(1, 13):
                rows = [[random.randrange(prime) for _ in range(12)] for _ in range(many)]
                space = Space(prime, 12, rows)
                told = Space.read(text=space.text())
                self.assertEqual((told, told.text()), (space, space.text()))

    def test_what_is_no_text(self):
        for text in NO_TEXTS:
            with self.subTest(text=text):
                with self.assertRaises(BadText):
                    Space.read(text)

    def test_texts_with_one_character_changed(self):
        text = "3 3; 1 0 2; 0 1 1"
        read = set()
        for at in range(len(text) + 1):
            for new in ["", *"0123456789; \n-+.,a"]:
                for other in (text[:at] + new + text[at:], text[:at] + new + text[at + 1:]):
                    try:
                        space = Space.read(other)
                    except BadText:
                        continue
                    self.assertEqual(space.text(), other)
                    read.add(other)
        tail = "3; 1 0 2; 0 1 1"
        primes = {f"{prime} {tail}" for prime in (3, 5, 7, 13)}
        items = {"3 3; 1 0 0; 0 1 1", "3 3; 1 0 1; 0 1 1", "3 3; 1 0 2; 0 1 0", "3 3; 1 0 2; 0 1 2"}
        self.assertEqual(read, primes | items)

    def test_every_short_string(self):
        read = set()
        for size in range(7):
            for characters in product("0 1;3", repeat=size):
                text = "".join(characters)
                try:
                    Space.read(text)
                except BadText:
                    continue
                read.add(text)
        whole = {f"{prime} {length}" for prime in (3, 11, 13) for length in (0, 1, 3, 10, 11)}
        self.assertEqual(read, whole | {"3 1; 1"})


if __name__ == "__main__":
    unittest.main()

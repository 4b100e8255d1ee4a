import re
import unittest
from random import Random

from drawn import drawn_terms, made, made_terms, some_trees
from trees import deepest, is_own_text, tree_of

from handspaces.errors import BadText
from handspaces.sizes import Claim
from handspaces.words import Word

TERM = re.compile(r"(0|-?[1-9][0-9]{0,29}) \|([^|]*)\|")

NO_TEXTS = [
    " ", "\n", ",", ", ", "|", "||", "a", "1", "1 ", "1 |", "1 ||", "1 | |", "|a|", " |a|", "1|a|", "1  |a|", "1 a",
    "1 |a", "1 a|", "1 |a| ", " 1 |a|", "1 |a|\n", "\n1 |a|", "1\n|a|", "1 |a\n|", "1 | a|", "1 |a |", "1 |a||",
    "1 ||a|", "1 |a|b|", "1 |a||b|", "1 |a| |b|",
    # between terms
    "1 |a|,1 |b|", "1 |a|,  1 |b|", "1 |a| , 1 |b|", "1 |a|; 1 |b|", "1 |a| 1 |b|", "1 |a|, ", "1 |a|,", ", 1 |a|",
    ",1 |a|", "1 |a|, , 1 |b|", "1 |a|,, 1 |b|", "1 |a|,\n1 |b|", "1 |a|\n1 |b|", "1 |a|, 1", "1 |a|, |b|",
    # integers
    "+1 |a|", "-0 |a|", "+0 |a|", "00 |a|", "01 |a|", "-01 |a|", "007 |a|", "--1 |a|", "- 1 |a|", "1- |a|", "- |a|",
    "1_0 |a|", "1.0 |a|", "1e3 |a|", "0x1 |a|", "1, 0 |a|", "True |a|", "a |a|", "1-1 |a|", "\u0661 |a|", "\u00b2 |a|",
    "\uff11 |a|", "1" * 31 + " |a|", "-" + "1" * 31 + " |a|", "0" * 30 + " |a|", "1" * 400 + " |a|",
    # words
    "1 |a+b|", "1 |a +b|", "1 |a + b |", "1 |a  + b|", "1 |(a)|", "1 |(a + b)|", "1 |a + (b & c)|", "1 |(a + b) + c|",
    "1 |(a & b) + c|", "1 |a & b) + c|", "1 |a + |", "1 |+ a|", "1 |d|", "1 |A|", "1 |ab|", "1 |a b|", "1 |2|",
    "1 |a & (b + c|", "1 |a & ( b + c)|", "1 |()|", "1 |a - b|", "1 |((a + b)) & c|", "1 |a, 1 |b|",
    "1 |" + "(" * 240 + "a" + ")" * 240 + "|", "1 |" + "(" * 490 + "|", "~!#", "Claim([])", "None",
]


def reading(text):
    """The tuples of an integer and a text of a word of a text of a claim, or None, by a pattern."""
    if text == "":
        return []
    told = []
    for part in text.split(", "):
        found = TERM.fullmatch(part)
        if found is None or "\n" in part or not is_own_text(found.group(2)):
            return None
        told.append((int(found.group(1)), found.group(2)))
    return told


class Texts(unittest.TestCase):
    def check(self, text):
        """What can be read has just the text that was read, and everything else raises an error."""
        expected = reading(text)
        if expected is None:
            with self.assertRaises(BadText, msg=text):
                Claim.read(text)
            return False
        claim = Claim.read(text)
        self.assertEqual(claim.text(), text)
        self.assertEqual([(number, word.text()) for number, word in claim.terms], expected)
        return True

    def test_told_ones(self):
        a, b, c = Word("a"), Word("b"), Word("c")
        for terms, text in (
            ([], ""), ([(1, a)], "1 |a|"), ([(-2, a + b)], "-2 |a + b|"), ([(0, Word("0"))], "0 |0|"),
            ([(1, a), (-1, a & (b + c))], "1 |a|, -1 |a & (b + c)|"), ([(3, a), (3, a)], "3 |a|, 3 |a|"),
            ([(0, a), (10, Word("1"))], "0 |a|, 10 |1|"), ([(-10 ** 29, a)], "-1" + "0" * 29 + " |a|"),
        ):
            self.assertEqual(Claim(terms).text(), text)
            self.assertEqual(Claim.read(text=text).terms, tuple(terms))
            self.assertTrue(self.check(text))

    def test_read_has_the_same_terms(self):
        random = Random(120)
        for at in range(300):
            claim = Claim(made_terms(drawn_terms(random, 8, 24 if at % 9 == 0 else 6, 10 ** (at % 30))))
            told = Claim.read(claim.text())
            self.assertIs(type(told), Claim)
            self.assertEqual(told.terms, claim.terms)
            self.assertEqual(told.text(), claim.text())
            for number, _ in told.terms:
                self.assertIs(type(number), int)

    def test_every_word(self):
        for tree in some_trees(Random(121), 200):
            told = Claim.read(f"7 |{made(tree).text()}|")
            self.assertEqual([(number, tree_of(word)) for number, word in told.terms], [(7, tree)])

    def test_words_that_need_more_than_nine_parentheses(self):
        for sign, other in ("++", "&&", "&+", "+&"):
            right, left = Word("a"), Word("c")
            for at in range(23):
                right = Word(sign if at % 2 else other, [Word("b"), right])
                left = Word("&" if at % 2 else "+", [left, Word("1")])
                for word in (right, left, Word("&", [right, left])):
                    claim = Claim([(-1, word), (2, Word("a"))])
                    self.assertEqual(Claim.read(claim.text()).terms, claim.terms)
        self.assertEqual(deepest("b + (" * 22 + "b + a" + ")" * 22), 22)
        self.assertTrue(self.check("1 |" + "b + (" * 22 + "b + a" + ")" * 22 + "|"))
        self.assertTrue(self.check("1 |" + "(" * 11 + "a + b" + ") & c + a" * 10 + ") & b|"))
        self.assertFalse(self.check("1 |" + "b + (" * 22 + "b & a" + ")" * 22 + "|"))
        self.assertFalse(self.check("1 |" + "b + (" * 22 + "b + a" + ")" * 21 + "|"))

    def test_thirty_digits_and_one_more(self):
        for digits in ("9" * 30, "1" + "0" * 29):
            for sign in ("", "-"):
                self.assertEqual(Claim.read(f"{sign}{digits} |b|").terms, ((int(sign + digits), Word("b")),))
                for more in (digits + "0", digits + "9", "0" + digits):
                    with self.assertRaises(BadText):
                        Claim.read(f"{sign}{more} |b|")
                    with self.assertRaises(BadText):
                        Claim.read(f"1 |a|, {sign}{more} |b|, 1 |c|")

    def test_what_is_no_text(self):
        for text in NO_TEXTS:
            with self.subTest(text=text):
                self.assertFalse(self.check(text))

    def test_one_character_put_in_taken_out_or_replaced(self):
        characters = "+-&|,()abc019 \n_.:~"
        found = {True: 0, False: 0}
        for text in ("1 |a|, 1 |b|, -1 |a + b|, -1 |a & b|", "-12 |(a + b) & (c + 1)|, 0 |a + (b + 0)|", "10 |c|", ""):
            for at in range(len(text) + 1):
                changed = [text[:at] + text[at + 1:]]
                changed += [text[:at] + sign + text[at:] for sign in characters]
                changed += [text[:at] + sign + text[at + 1:] for sign in characters]
                for told in changed:
                    found[self.check(told)] += 1
        self.assertGreater(min(found.values()), 200)

    def test_drawn_strings(self):
        random = Random(122)
        parts = ["1 ", "-2 ", "|a|", "|a + b|", "|", ", ", ",", " ", "a", "(", ")", " & ", " + ", "0 ", "b", "\n", "-"]
        found = 0
        for _ in range(4000):
            found += self.check("".join(random.choice(parts) for _ in range(random.randrange(1, 6))))
        self.assertGreater(found, 20)

    def test_long_texts(self):
        for text in (", ".join(["-1 |a|"] * 60), "1 |" + " + ".join("a" * 120) + "|",
                     "5 |" + " & ".join("1" * 24) + "|"):
            self.assertTrue(self.check(text))


if __name__ == "__main__":
    unittest.main()

import unittest
from itertools import product
from random import Random

from drawn import made, some_trees
from trees import deepest, drawn_tree, full_text, parsed, tree_of, wrong_column

from handspaces.errors import BadColumn
from handspaces.words import Word

# Every character that callers pass; the percent sign and others are refused as well.
CHARACTERS = [chr(code) for code in range(32, 127)] + ["\n", "\t", "\r", "\0", "\u00a0", "\u00e4", "\uff0b"]


def spaced(random, text, most):
    """A text with drawn numbers of spaces at all places."""
    told = [" " * random.randrange(most + 1) + sign for sign in text.replace(" ", "")]
    return "".join(told) + " " * random.randrange(most + 1)


class Read(unittest.TestCase):
    def test_own_texts(self):
        for tree in some_trees(Random(10), 500):
            word = made(tree)
            if deepest(word.text()) <= 9:
                self.assertEqual(Word.read(word.text()), word)
                self.assertEqual(tree_of(Word.read(text=word.text())), tree)

    def test_spaces(self):
        random = Random(11)
        for tree in some_trees(random, 200):
            text = made(tree).text()
            if deepest(text) > 9:
                continue
            for told in (text.replace(" ", ""), f"   {text}  ", text.replace(" ", "    "), spaced(random, text, 3)):
                self.assertEqual(tree_of(Word.read(told)), tree, told)
        self.assertEqual(Word.read(" " * 200 + "a" + " " * 200), Word("a"))

    def test_needless_parentheses(self):
        random = Random(12)
        for tree in some_trees(random, 300):
            text = full_text(tree)
            if deepest(text) <= 9:
                self.assertEqual(tree_of(Word.read(text)), tree, text)
            if deepest(text) <= 7:
                self.assertEqual(tree_of(Word.read(f"((  {text}) )")), tree)
        for text in ("((a))", "( a )", "(a)+(b)", "((a))+((b))", "((a)+((b)))", "(((a+b)))"):
            self.assertEqual(tree_of(Word.read(text)), parsed(text), text)

    def test_nine_and_ten_parentheses(self):
        for many in range(10):
            self.assertEqual(Word.read("(" * many + "a" + ")" * many), Word("a"))
        nine = "(" * 9 + "a" + ")" * 9
        self.assertEqual(Word.read(f"{nine}+{nine}&{nine}").text(), "a + a & a")
        for text, column in (
            ("(" * 10 + "a" + ")" * 10, 10), ("(" * 10, 10), ("(" * 12, 10), (nine + "+(" + nine + ")", 30),
            ("a & " + "( " * 9 + "b + (c)" + ")" * 9, 27),
        ):
            with self.assertRaises(BadColumn) as caught:
                Word.read(text)
            self.assertEqual(caught.exception.column, column)

    def test_precedence_and_order(self):
        for text in ("a+b+c", "a&b&c", "a+b&c", "a&b+c", "a&b+c&1+0&a&b", "(a+b)&c", "a&(b+c)&1", "a+(b+c)"):
            self.assertEqual(tree_of(Word.read(text)), parsed(text), text)

    def test_long_texts(self):
        for sign in "+&":
            word = Word.read(sign.join("a" * 250))
            self.assertEqual(len(word), 250)
            self.assertEqual(word.text(), f" {sign} ".join("a" * 250))
            self.assertEqual(word, Word.read(word.text()))
            self.assertEqual(word.swapped("bac").dual().dual(), Word.read(sign.join("b" * 250)))


class Refused(unittest.TestCase):
    def check(self, text):
        """The column told for a string, or None, is that of the independent search."""
        try:
            Word.read(text)
            found = None
        except BadColumn as error:
            found = error.column
        self.assertEqual(found, wrong_column(text), text)

    def test_told_ones(self):
        for text, column in (
            ("", 1), (" ", 2), ("   ", 4), ("a +", 4), ("a + ", 5), ("a + (b", 7), ("(", 2), ("(a", 3),
            ("(a + b) & (", 12), (")", 1), ("a)", 2), ("(a))", 4), ("a b", 3), ("ab", 2), ("a  0", 4), ("01", 2),
            ("+", 1), ("+a", 1), ("& a", 1), ("a ++ b", 4), ("a + & b", 5), ("a &+ b", 4), ("a (b)", 3), ("(a)b", 4),
            ("(a)(b)", 4), ("()", 2), ("( )", 3), ("(+a)", 2), ("(a+)", 4), ("a +)", 4), ("a + b\n", 6), ("\n", 1),
            ("\na", 1), ("a\n+ b", 2), ("a - b", 3), ("A", 1), ("d", 1), ("2", 1), ("a + d", 5), ("a * b", 3),
            ("a | b", 3), ("a && b", 4), ("[a]", 1), ("a\t", 2),
        ):
            with self.subTest(text):
                with self.assertRaises(BadColumn) as caught:
                    Word.read(text)
                self.assertEqual(caught.exception.column, column)
                self.assertIs(type(caught.exception.column), int)

    def test_each_character_at_each_place(self):
        text = " a + (b&0 )"
        for at in range(len(text) + 1):
            for character in CHARACTERS:
                self.check(text[:at] + character + text[at:])
                self.check(text[:at] + character + text[at + 1:])

    def test_all_short_strings(self):
        for length in range(5):
            for signs in product("a1+&() \n", repeat=length):
                self.check("".join(signs))

    def test_texts_cut_off_and_spoilt(self):
        random = Random(13)
        for _ in range(150):
            text = spaced(random, full_text(drawn_tree(random, random.randrange(1, 12))), 1)
            at = random.randrange(len(text) + 1)
            self.check(text[:at])
            self.check(text[:at] + text[at + 1:])
            self.check(text[:at] + random.choice("abc01+&() ") + text[at:])
            self.check(text[:at] + random.choice("abc01+&()") * 2 + text[at + 1:])


if __name__ == "__main__":
    unittest.main()

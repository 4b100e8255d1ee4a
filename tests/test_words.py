import unittest
from random import Random

from drawn import made, some_trees
from trees import all_trees, drawn_tree, parsed, swapped_tree, tree_of
from values import ANY_VALUES, is_like, is_one_of

from handspaces.errors import BadOrder, BadSign
from handspaces.spaces import Space
from handspaces.words import Word

LEAVES = ["a", "b", "c", "0", "1"]
ORDERS = ["abc", "acb", "bac", "bca", "cab", "cba"]
A, B, C, ZERO, ONE = (Word(sign) for sign in LEAVES)


class Creation(unittest.TestCase):
    def test_signs_without_parts(self):
        for sign in LEAVES:
            for word in (Word(sign), Word(sign, ()), Word(sign, []), Word(sign=sign), Word(parts=(), sign=sign)):
                self.assertEqual((word.sign, word.parts), (sign, ()))
                self.assertIs(type(word.parts), tuple)

    def test_signs_with_two_parts(self):
        for sign in "+&":
            for word in (Word(sign, [A, B]), Word(sign, (A, B)), Word(parts=[A, B], sign=sign)):
                self.assertEqual((word.sign, word.parts), (sign, (A, B)))
                self.assertIs(type(word.parts), tuple)
                self.assertNotEqual(word.parts, (B, A))

    def test_signs_with_another_number_of_parts(self):
        for sign in LEAVES + ["+", "&"]:
            for many in range(5):
                if many == (0 if sign in LEAVES else 2):
                    continue
                parts = [A, B, C, ONE][:many]
                for told in (parts, tuple(parts)):
                    with self.subTest(sign=sign, many=many):
                        with self.assertRaises(BadSign) as caught:
                            Word(sign, told)
                        self.assertEqual(caught.exception.told, sign)
        for sign in "+&":
            with self.assertRaises(BadSign) as caught:
                Word(sign)
            self.assertEqual(caught.exception.told, sign)

    def test_values_that_are_no_signs(self):
        for value in ANY_VALUES:
            if is_one_of(value, LEAVES + ["+", "&"]):
                continue
            for parts in ((), [], [A], [A, B], (A, B, C)):
                with self.subTest(value=value, parts=len(parts)):
                    with self.assertRaises(BadSign) as caught:
                        Word(value, parts)
                    self.assertTrue(is_like(caught.exception.told, value))

    def test_later_changes_of_the_list(self):
        parts = [A, B]
        word = Word("+", parts)
        parts[0] = C
        parts.append(ONE)
        self.assertEqual(word.parts, (A, B))
        self.assertEqual(word.text(), "a + b")

    def test_arguments_stay(self):
        parts = [A, B]
        Word("&", parts)
        self.assertEqual(parts, [A, B])
        with self.assertRaises(BadSign):
            Word("a", parts)
        self.assertEqual(parts, [A, B])

    def test_properties_cannot_be_assigned(self):
        word = A + B
        for name in ("sign", "parts"):
            with self.assertRaises(AttributeError):
                setattr(word, name, "a")
        self.assertEqual(word.text(), "a + b")

    def test_joined_by_signs(self):
        word = A + B
        other = word & C
        self.assertEqual((word.sign, word.parts), ("+", (A, B)))
        self.assertEqual((other.sign, other.parts), ("&", (A + B, C)))
        self.assertEqual(tree_of((A & ONE) + (ZERO + B)), ("+", ("&", "a", "1"), ("+", "0", "b")))


class Equality(unittest.TestCase):
    def test_however_put_together(self):
        for tree, signs in ((("+", "a", ("&", "b", "1")), A + (B & ONE)),
                            (("&", ("+", "a", "b"), ("&", "0", "c")), (A + B) & (ZERO & C))):
            for word in (made(tree), Word.read(made(tree).text())):
                self.assertTrue(word == signs)
                self.assertFalse(word != signs)

    def test_equal_exactly_if_the_trees_are(self):
        trees = [tree for size in (1, 2, 3) for tree in all_trees(size, "ab0")]
        for one in trees[::7]:
            for other in trees:
                self.assertEqual(made(one) == made(other), one == other)

    def test_same_value_is_not_enough(self):
        self.assertNotEqual(A + B, B + A)
        self.assertNotEqual(A + A, A)
        self.assertNotEqual((A + B) + C, A + (B + C))

    def test_other_classes(self):
        for other in [*ANY_VALUES, Space(2, 1), ["a"], object()]:
            self.assertFalse(A == other)
            self.assertTrue(A != other)
            self.assertFalse(other == A)


class Length(unittest.TestCase):
    def test_letters_are_counted(self):
        self.assertEqual([len(word) for word in (A, ZERO, ONE, A + A, (A + B) & (ONE + ZERO))], [1, 1, 1, 2, 4])
        random = Random(3)
        for many in list(range(1, 25)) * 4:
            self.assertEqual(len(made(drawn_tree(random, many))), many)


class Texts(unittest.TestCase):
    def test_told_ones(self):
        for tree, text in (
            ("a", "a"), ("0", "0"), (("+", "a", "1"), "a + 1"), (("&", "c", "0"), "c & 0"),
            (("+", "a", ("&", "b", "c")), "a + b & c"), (("+", ("&", "a", "b"), "c"), "a & b + c"),
            (("&", "a", ("+", "b", "c")), "a & (b + c)"), (("&", ("+", "a", "b"), "c"), "(a + b) & c"),
            (("&", ("+", "a", "b"), ("&", "c", "a")), "(a + b) & (c & a)"),
            (("+", ("+", "a", "b"), "c"), "a + b + c"), (("+", "a", ("+", "b", "c")), "a + (b + c)"),
            (("&", ("&", "a", "b"), "c"), "a & b & c"), (("&", "a", ("&", "b", "c")), "a & (b & c)"),
            (("+", ("&", "a", "b"), ("&", "c", "1")), "a & b + c & 1"),
            (("+", ("+", "a", "b"), ("+", "c", "1")), "a + b + (c + 1)"),
            (("&", ("&", ("+", "a", "b"), "c"), "1"), "(a + b) & c & 1"),
        ):
            self.assertEqual(made(tree).text(), text)

    def test_an_independent_parser_finds_the_tree(self):
        for tree in some_trees(Random(4), 600):
            self.assertEqual(parsed(made(tree).text()), tree)

    def test_no_parentheses_are_needless(self):
        for tree in some_trees(Random(5), 200):
            text = made(tree).text()
            opened = []
            for at, sign in enumerate(text):
                if sign == "(":
                    opened.append(at)
                elif sign == ")":
                    start = opened.pop()
                    less = text[:start] + text[start + 1:at] + text[at + 1:]
                    self.assertNotEqual(parsed(less), tree, text)

    def test_spaces_stand_around_the_signs_only(self):
        for tree in some_trees(Random(6), 200):
            text = made(tree).text()
            for sign in "+&":
                text = text.replace(f" {sign} ", sign)
            self.assertNotIn(" ", text)
            self.assertNotIn("+", made(tree).text().replace(" + ", ""))
            self.assertNotIn("&", made(tree).text().replace(" & ", ""))

    def test_chains_of_24(self):
        for sign in "+&":
            left, right = "a", "a"
            for _ in range(23):
                left = (sign, left, "1")
                right = (sign, "0", right)
            self.assertEqual(made(left).text(), f" {sign} ".join(["a"] + ["1"] * 23))
            expected = f"0 {sign} (" * 22 + f"0 {sign} a" + ")" * 22
            self.assertEqual(made(right).text(), expected)


class Exchanges(unittest.TestCase):
    def test_swapped(self):
        for tree in some_trees(Random(7), 60):
            word = made(tree)
            for order in ORDERS:
                for told in (word.swapped(order), word.swapped(order=order)):
                    self.assertEqual(tree_of(told), swapped_tree(tree, dict(zip("abc", order))))
            self.assertEqual(tree_of(word), tree)

    def test_the_letters_stand_in_the_places_of_a_b_and_c(self):
        word = Word.read("a + b & c + 0 & 1")
        told = {order: word.swapped(order).text() for order in ORDERS}
        self.assertEqual(told, {
            "abc": "a + b & c + 0 & 1", "acb": "a + c & b + 0 & 1", "bac": "b + a & c + 0 & 1",
            "bca": "b + c & a + 0 & 1", "cab": "c + a & b + 0 & 1", "cba": "c + b & a + 0 & 1"})

    def test_values_that_are_no_orders(self):
        for value in ANY_VALUES:
            if is_one_of(value, ORDERS):
                continue
            for word in (A, ONE, A + B):
                with self.subTest(value=value):
                    with self.assertRaises(BadOrder) as caught:
                        word.swapped(value)
                    self.assertTrue(is_like(caught.exception.order, value))
        self.assertEqual((A + B).text(), "a + b")

    def test_dual(self):
        table = {"+": "&", "&": "+", "0": "1", "1": "0"}
        for tree in some_trees(Random(8), 100):
            word = made(tree)
            self.assertEqual(tree_of(word.dual()), swapped_tree(tree, table))
            self.assertEqual(word.dual().dual(), word)
            self.assertEqual(tree_of(word), tree)


if __name__ == "__main__":
    unittest.main()

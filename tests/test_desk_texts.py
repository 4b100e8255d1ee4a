import re
import unittest
from collections import Counter
from random import Random

from desks import Case, Model, drawn_desk
from drawn import PRIMES

from handspaces.desk import Desk, read_desk
from handspaces.errors import BadLine, NothingToRedo, NothingToUndo

FIRST = re.compile(r"(2|3|5|7|11|13) (0|[1-9]|10|11|12)")

# Each with the number of its first line that is not as described.
NO_TEXTS = [
    ("", 1), (" ", 1), ("\n", 1), ("\n3 2", 1), ("3", 1), ("3 ", 1), (" 3 2", 1), ("3 2 ", 1), ("3  2", 1),
    ("3 2 1", 1),
    ("3,2", 1), ("3 2;", 1), ("4 2", 1), ("1 2", 1), ("0 2", 1), ("17 2", 1), ("-3 2", 1), ("+3 2", 1), ("03 2", 1),
    ("3 02", 1),
    ("3 00", 1), ("3 -1", 1), ("3 -0", 1), ("3 13", 1), ("3 20", 1), ("3 100", 1), ("3 2.0", 1), ("a b", 1),
    ("a 1 1", 1),
    ("3 two", 1), ("33 2", 1), ("\u0663 2", 1), ("3 \u00b2", 1), ("3 2a 1 1", 1), ("3 " + "1" * 400, 1),
    ("3 2 \na 1 1", 1),
    ("4 2\nno\n", 1), ("3 13\na 1", 1), ("\na 1 1", 1), ("3 2\r\na 1 1", 1),
    ("3 2\n", 2), ("3 2\n\n", 2), ("3 2\n\na 1 1", 2), ("3 2\na 1", 2), ("3 2\na 1 1 1", 2), ("3 2\na", 2),
    ("3 2\na ", 2),
    ("3 2\n1 1", 2), ("3 2\n a 1 1", 2), ("3 2\na 1 1 ", 2), ("3 2\na  1 1", 2), ("3 2\na 1  1", 2), ("3 2\na 1 3", 2),
    ("3 2\na 3 1", 2), ("3 2\na 1 4", 2), ("3 2\na 1 -1", 2), ("3 2\na -0 1", 2), ("3 2\na +1 1", 2),
    ("3 2\na 01 1", 2),
    ("3 2\na 1 00", 2), ("3 2\nd 1 1", 2), ("3 2\nA 1 1", 2), ("3 2\nab 1 1", 2), ("3 2\na1 1", 2), ("3 2\na, 1 1", 2),
    ("3 2\na 1,1", 2), ("3 2\na 1 1;", 2), ("3 2\na a 1", 2), ("3 2\na 1 \u0661", 2), ("3 2\na 1 1.0", 2),
    ("3 2\n3 2", 2),
    ("3 2\na 1 100", 2), ("3 2\na 1 " + "9" * 400, 2), ("3 2\nabc 1 1", 2), ("3 2\n 1 1", 2), ("3 2\na b 1 1", 2),
    ("13 1\na 13", 2), ("2 1\na 2", 2), ("11 1\nb 11", 2), ("5 1\nb 05", 2), ("3 0\na 0", 2), ("3 0\na ", 2),
    ("3 0\n", 2),
    ("3 0\n a", 2), ("3 0\nd", 2), ("3 0\na a", 2), ("3 2\nplane 1 1", 2), ("3 2\n\ta 1 1", 2),
    ("3 2\na 1 1\n", 3), ("3 2\na 1 1\n\n", 3), ("3 2\na 1 1\nb 1", 3), ("3 2\na 1 1\nb 1 3\n", 3),
    ("3 2\na 1 1\n\nb 1 1", 3),
    ("3 2\na 1 1\nb 1 1\nc 1 1\nd 1 1\ne", 5), ("3 0\na\nb\nc\n", 5), ("2 1\na 1\na 1\na 1\na 01", 5),
]


def first_wrong(text):
    """The number of the first line that is not as described, or None, by patterns."""
    lines = text.split("\n")
    found = FIRST.fullmatch(lines[0])
    if found is None:
        return 1
    prime, length = int(found.group(1)), int(found.group(2))
    item = "|".join(str(number) for number in range(prime))
    step = re.compile(f"[abc]( ({item})){{{length}}}")
    for at, line in enumerate(lines[1:], start=2):
        if step.fullmatch(line) is None:
            return at
    return None


class Texts(Case):
    def check(self, text):
        line = first_wrong(text)
        if line is None:
            self.assertEqual(read_desk(text).text(), text)
            return True
        with self.assertRaises(BadLine) as caught:
            read_desk(text)
        self.assertEqual(caught.exception.line, line, text)
        return False

    def test_told_ones(self):
        desk = Desk(13, 3)
        desk.learn("c", (12, 13, -1))
        desk.learn("a", [0, 10 ** 29, 1])
        self.assertEqual(desk.text(), f"13 3\nc 12 0 12\na 0 {10 ** 29 % 13} 1")
        desk.undo()
        self.assertEqual(desk.text(), "13 3\nc 12 0 12")
        desk.undo()
        self.assertEqual(desk.text(), "13 3")

    def test_read_of_the_text(self):
        random = Random(300)
        for at in range(100):
            desk, model = drawn_desk(random, PRIMES[at % 6], at % 13, at % 8)
            for _ in range(random.randrange(len(model.made) + 1)):
                desk.undo()
                model.undo()
            told = read_desk(text=desk.text())
            self.assertIs(type(told), Desk)
            self.same(told, model)
            self.assertTrue(self.check(desk.text()))
            self.taken_back(told, model)

    def taken_back(self, desk, model):
        """The steps of a desk that was read can be taken back, and none can be made again."""
        with self.assertRaises(NothingToRedo):
            desk.redo()
        made = list(model.made)
        while made:
            desk.undo()
            made.pop()
            self.assertEqual(desk.steps(), made)
        with self.assertRaises(NothingToUndo):
            desk.undo()
        for _ in model.made:
            desk.redo()
        self.same(desk, model)

    def test_a_desk_without_steps(self):
        for prime in PRIMES:
            for length in range(13):
                desk = read_desk(f"{prime} {length}")
                self.same(desk, Model(prime, length))
                with self.assertRaises(NothingToUndo):
                    desk.undo()

    def test_what_is_no_text(self):
        for text, line in NO_TEXTS:
            with self.subTest(text=text):
                with self.assertRaises(BadLine) as caught:
                    read_desk(text)
                self.assertEqual(caught.exception.line, line)
                self.assertEqual(first_wrong(text), line)

    def test_one_character_changed(self):
        found = Counter()
        for text in ("3 2\na 1 0\nb 0 2\nc 1 1", "13 1\na 12\nb 10\na 0", "2 0\na\nc", "11 12"):
            for at in range(len(text) + 1):
                changed = [text[:at] + text[at + 1:]]
                changed += [text[:at] + sign + text[at:] for sign in " \nabcd0123-+~"]
                changed += [text[:at] + sign + text[at + 1:] for sign in " \nabcd0123-+~"]
                for told in changed:
                    found[self.check(told)] += 1
        self.assertGreater(min(found.values()), 50)

    def test_drawn_strings(self):
        random = Random(301)
        parts = ["3 2", "2 1", "\n", "a 1", "b 1 1", "c 0", " 1", "a", "\n\n", "c 2 0", "0", "a 0 0"]
        found = Counter()
        for _ in range(3000):
            found[self.check("".join(random.choice(parts) for _ in range(random.randrange(1, 6))))] += 1
        self.assertGreater(min(found.values()), 20)

    def test_long_texts(self):
        self.assertTrue(self.check("2 0" + "\na\nb\nc" * 80))
        self.assertTrue(self.check("7 12" + "\na 6 5 4 3 2 1 0 1 2 3 4 5" * 18))


if __name__ == "__main__":
    unittest.main()

"""A simple model of a desk, and deeds at both."""

import unittest

from values import is_like

from handspaces.desk import Desk
from handspaces.errors import NothingToRedo, NothingToUndo
from handspaces.learning import learn
from handspaces.pieces import nine_numbers
from handspaces.spaces import Space
from handspaces.triples import Triple


class Model:
    """What a desk should be: the steps that are made and those that were taken back, and nothing else."""

    def __init__(self, prime, length):
        self.prime, self.length, self.made, self.undone = prime, length, [], []

    def learn(self, hand, vector):
        self.made.append((hand, tuple(item % self.prime for item in vector)))
        self.undone = []

    def undo(self):
        self.undone.append(self.made.pop())

    def redo(self):
        self.made.append(self.undone.pop())

    def triple(self):
        return Triple(*[Space(self.prime, self.length, [row for other, row in self.made if other == hand])
                        for hand in "abc"])

    def text(self):
        lines = [f"{self.prime} {self.length}"]
        return "\n".join(lines + [" ".join(map(str, (hand, *row))) for hand, row in self.made])

    def copy(self):
        told = Model(self.prime, self.length)
        told.made, told.undone = list(self.made), list(self.undone)
        return told


def drawn_vector(random, prime, length, known=()):
    """A drawn vector; often a sum of known ones, with items below 0 and beyond the prime."""
    row = [random.randrange(prime) for _ in range(length)]
    if known and random.random() < 0.6:
        row = [x + random.randrange(2) * y for x, y in zip(*random.choices(known, k=2))]
    told = [item + prime * random.choice((0, 0, 1, -1, 10 ** 20)) for item in row]
    return random.choice((list, tuple))(told)


class Case(unittest.TestCase):
    def same(self, desk, model):
        """The desk is as the model says."""
        self.assertEqual(len(desk), len(model.made))
        steps = desk.steps()
        self.assertTrue(is_like(steps, model.made), (steps, model.made))
        triple = model.triple()
        self.assertEqual(desk.triple(), triple)
        self.assertEqual(list(desk.numbers().items()), list(nine_numbers(triple).items()))
        self.assertEqual(desk.text(), model.text())

    def can_redo(self, desk, model):
        """What can be taken back and made again is as the model says; nothing is left changed."""
        for _ in model.undone:
            self.assertIsNone(desk.redo())
        self.assertEqual(desk.steps(), model.made + model.undone[::-1])
        with self.assertRaises(NothingToRedo):
            desk.redo()
        for _ in model.made + model.undone:
            self.assertIsNone(desk.undo())
        with self.assertRaises(NothingToUndo):
            desk.undo()
        for _ in model.made:
            desk.redo()
        self.same(desk, model)

    def deed(self, random, desk, model):
        """One drawn deed at both."""
        told = random.choice(("learn", "learn", "undo", "redo"))
        if told == "learn":
            hand, vector = random.choice("abc"), drawn_vector(
                random, model.prime, model.length, [row for _, row in model.made])
            expected = learn(model.triple(), hand, vector)
            kept = list(vector)
            self.assertTrue(is_like(desk.learn(hand, vector), expected[1]))
            self.assertEqual(list(vector), kept)
            model.learn(hand, vector)
        elif told == "undo" and model.made:
            self.assertIsNone(desk.undo())
            model.undo()
        elif told == "redo" and model.undone:
            self.assertIsNone(desk.redo())
            model.redo()
        elif told == "undo":
            with self.assertRaises(NothingToUndo):
                desk.undo()
        else:
            with self.assertRaises(NothingToRedo):
                desk.redo()
        return told


def drawn_desk(random, prime, length, many):
    """A desk with drawn steps, and its model."""
    desk, model = Desk(prime, length), Model(prime, length)
    for _ in range(many):
        hand, vector = random.choice("abc"), drawn_vector(random, prime, length, [row for _, row in model.made])
        desk.learn(hand, vector)
        model.learn(hand, vector)
    return desk, model

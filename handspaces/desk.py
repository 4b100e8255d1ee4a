"""A desk that keeps what three hands have learned."""

from handspaces.errors import BadLength, BadLine, BadPrime, BadText, NoHand, NothingToRedo, NothingToUndo
from handspaces.hands import HANDS
from handspaces.learning import learn
from handspaces.pieces import nine_numbers
from handspaces.rows import row_of
from handspaces.spaces import Space, read_numbers, spaced
from handspaces.triples import LINES, Triple, value


def check_hands(hands):
    """Raise an error unless a value is a string of one, two or three different hands."""
    if not isinstance(hands, str) or len(hands) == 0:
        raise NoHand(hands)
    if not all([hand in HANDS and hands.count(hand) == 1 for hand in hands]):
        raise NoHand(hands)


def known_together(triple, hands):
    """The sum of the spaces of some hands, or of none."""
    known = Space.nothing(triple.prime, triple.length)
    for hand in hands:
        known = known + triple[hand]
    return known


def is_part(part, hands):
    """Whether all of some hands are among others."""
    return all([hand in hands for hand in part])


class Desk:
    """What three hands have learned, step by step."""

    def __init__(self, prime, length):
        start = Space.nothing(prime, length)
        self._start = Triple(start, start, start)
        # Tuples of a hand, the vector that it has learned and the triple afterwards.
        self._made = ()
        self._undone = ()

    def __len__(self):
        return len(self._made)

    def learn(self, hand, vector):
        """Let a hand learn a vector; the move, or None if nothing is new."""
        triple, move = learn(self.triple(), hand, vector)
        step = (hand, row_of(vector, triple.prime), triple)
        self._made = (*self._made, step)
        self._undone = ()
        return move

    def steps(self):
        """The steps that have been made and not been taken back: tuples of the hand and the vector."""
        return [(hand, row) for hand, row, _ in self._made]

    def triple(self):
        """The triple of the hands' spaces."""
        return self._made[-1][2] if len(self._made) > 0 else self._start

    def numbers(self):
        """The nine numbers of the triple."""
        return nine_numbers(self.triple())

    def knows(self, hands, vector):
        """Whether some hands know a vector together."""
        check_hands(hands)
        return vector in known_together(self.triple(), hands)

    def tellers(self, vector):
        """Those hands that know a vector together, but no part of which does."""
        triple = self.triple()
        told = []
        for hands in LINES:
            known = vector in known_together(triple, hands)
            if known and not any([is_part(part, hands) for part in told]):
                told.append(hands)
        return told

    def undo(self):
        """Take back the last step."""
        if len(self._made) == 0:
            raise NothingToUndo()
        self._undone = (*self._undone, self._made[-1])
        self._made = self._made[:-1]

    def redo(self):
        """Make the step again that was taken back last."""
        if len(self._undone) == 0:
            raise NothingToRedo()
        self._made = (*self._made, self._undone[-1])
        self._undone = self._undone[:-1]

    def trial(self):
        """An object for `with`: when the block ends, the desk is as it was when it began."""
        return Trial(self)

    def supposed(self, steps, word):
        """The value of a word in the triple that there would be after further steps."""
        triple = self.triple()
        for hand, vector in steps:
            triple, _ = learn(triple, hand, vector)
        return value(word, triple)

    def text(self):
        """The text: the prime and the length, and a line for each step."""
        lines = [(self._start.prime, self._start.length)]
        lines = lines + [(hand, *row) for hand, row in self.steps()]
        return "\n".join([spaced(line) for line in lines])


class Trial:
    """One block after which a desk is as it was before."""

    def __init__(self, desk):
        self._desk = desk
        self._made = ()
        self._undone = ()

    def __enter__(self):
        self._made = self._desk._made
        self._undone = self._desk._undone
        return self._desk

    def __exit__(self, *told):
        self._desk._made = self._made
        self._desk._undone = self._undone


def read_size(line):
    """The desk without steps whose text is a line."""
    numbers = read_numbers(line)
    if len(numbers) != 2:
        raise BadText()
    return Desk(*numbers)


def read_step(line, prime, length):
    """The hand and the vector of a line, where only what is needless is not looked at."""
    hand, gap, rest = line.partition(" ")
    row = read_numbers(rest) if gap else []
    if hand not in HANDS or len(row) != length:
        raise BadText()
    return hand, row_of(row, prime)


def read_desk(text):
    """The desk with a text, whose steps can be taken back."""
    first, *lines = text.split("\n")
    try:
        desk = read_size(first)
    except (BadText, BadPrime, BadLength):
        raise BadLine(1) from None
    # Needless zeros, and items that are not below the prime, show only in the text.
    if desk.text() != first:
        raise BadLine(1)
    size = desk.triple()
    for number, line in enumerate(lines, start=2):
        try:
            hand, row = read_step(line, size.prime, size.length)
        except BadText:
            raise BadLine(number) from None
        if spaced((hand, *row)) != line:
            raise BadLine(number)
        desk.learn(hand, row)
    return desk

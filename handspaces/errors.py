"""The errors that the package raises."""


class HandError(ValueError):
    """The base of all errors of this package."""


class BadPrime(HandError):
    """A value that is not one of the primes was told as one."""

    def __init__(self, told):
        self.told = told


class NoInverse(HandError):
    """A number is a multiple of the prime, so it has no inverse."""

    def __init__(self, number):
        self.number = number


class BadLength(HandError):
    """A value that is not an integer from 0 to 12 was told as a length."""

    def __init__(self, told):
        self.told = told


class BadVector(HandError):
    """A value is not a list or tuple of as many integers as the length says."""

    def __init__(self, vector):
        self.vector = vector


class UnlikeSpaces(HandError):
    """Spaces do not have all the same prime and length."""


class NotWithin(HandError):
    """A space is not contained in the one that should contain it."""


class BadMatrix(HandError):
    """A value is not a list of as many rows of integers as the length says."""


class BadText(HandError):
    """A string is not the text of what was to be read."""


class BadSign(HandError):
    """A value is not a sign of a word, or does not fit the number of the parts."""

    def __init__(self, told):
        self.told = told


class BadColumn(HandError):
    """A string is not the text of a word; the column tells where that shows."""

    def __init__(self, column):
        self.column = column


class BadOrder(HandError):
    """A value does not name everything that is to be ordered, each once."""

    def __init__(self, order):
        self.order = order


class NoHand(HandError):
    """A value does not name a hand, or hands."""

    def __init__(self, hand):
        self.hand = hand


class NoKind(HandError):
    """A value is not one of the nine kinds."""

    def __init__(self, kind):
        self.kind = kind


class BadNumbers(HandError):
    """A dict does not tell for kinds how often they are taken."""


class TooGreat(HandError):
    """The length of a triple would be above 12."""

    def __init__(self, told):
        self.told = told


class Clash(HandError):
    """No triple has all the facts."""


class BadMove(HandError):
    """A value is not one of the eighteen moves."""

    def __init__(self, move):
        self.move = move


class Barred(HandError):
    """A move takes a kind of which there is none at its time."""

    def __init__(self, spot):
        self.spot = spot


class BadLine(HandError):
    """A line of the text of a desk is not as described."""

    def __init__(self, line):
        self.line = line


class NothingToUndo(HandError):
    """There is no step to take back."""


class NothingToRedo(HandError):
    """There is no step to make again."""


class NoSpace(HandError):
    """A part of a chain word names a space that its chain does not have."""

    def __init__(self, part):
        self.part = part


class NoCell(HandError):
    """A value is not a cell of two chains."""

    def __init__(self, cell):
        self.cell = cell

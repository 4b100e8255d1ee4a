"""Words: expressions of the hands, 0 and 1 with + (together) and & (both)."""

from handspaces.errors import BadColumn, BadSign
from handspaces.hands import check_order

LEAVES = ("a", "b", "c", "0", "1")
JOINTS = ("+", "&")
DUALS = {"+": "&", "&": "+", "0": "1", "1": "0"}
MOST_OPEN = 9


def fits(sign, many):
    """Whether a value is the sign of a word with so many parts."""
    if sign in LEAVES:
        return many == 0
    return sign in JOINTS and many == 2


def leaves(word):
    """The signs of the parts of a word that have no parts, from the left."""
    if len(word.parts) == 0:
        return [word.sign]
    return [leaf for part in word.parts for leaf in leaves(part)]


def renamed(word, table):
    """The word in which signs are exchanged as a dict tells."""
    parts = [renamed(part, table) for part in word.parts]
    return Word(table.get(word.sign, word.sign), parts)


def part_text(part, enclosed):
    """The text of a part of a word, in parentheses or not."""
    return f"({part.text()})" if enclosed else part.text()


def check_text(text, most):
    """Raise an error unless a string can be read, with at most so many parentheses open at any place."""
    opened = 0
    wanted = True
    for column, sign in enumerate(text, start=1):
        if wanted and sign in LEAVES:
            wanted = False
        elif wanted and sign == "(" and opened < most:
            opened += 1
        elif not wanted and sign in JOINTS:
            wanted = True
        elif not wanted and sign == ")" and opened > 0:
            opened -= 1
        elif sign != " ":
            raise BadColumn(column)
    if wanted or opened > 0:
        raise BadColumn(len(text) + 1)


def read_sum(signs, at):
    """The word that begins at an index of the signs, and the index behind it."""
    word, at = read_intersection(signs, at)
    while signs[at:at + 1] == "+":
        more, at = read_intersection(signs, at + 1)
        word = word + more
    return word, at


def read_intersection(signs, at):
    """The word without open sums that begins at an index, and the index behind it."""
    word, at = read_part(signs, at)
    while signs[at:at + 1] == "&":
        more, at = read_part(signs, at + 1)
        word = word & more
    return word, at


def read_part(signs, at):
    """The letter, 0, 1 or word in parentheses at an index, and the index behind it."""
    if signs[at] != "(":
        return Word(signs[at]), at + 1
    word, at = read_sum(signs, at + 1)
    return word, at + 1


def read_word(text, most):
    """The word with a text in which at most so many parentheses are open at any place."""
    check_text(text, most)
    word, _ = read_sum(text.replace(" ", ""), 0)
    return word


class Word:
    """A word; it never changes."""

    def __init__(self, sign, parts=()):
        if not fits(sign, len(parts)):
            raise BadSign(sign)
        self._sign = sign
        self._parts = tuple(parts)

    @classmethod
    def read(cls, text):
        """The word with a text, whatever spaces and parentheses are around its parts."""
        return read_word(text, MOST_OPEN)

    @property
    def sign(self):
        """The sign."""
        return self._sign

    @property
    def parts(self):
        """The tuple of the parts: two of them, or none."""
        return self._parts

    def __add__(self, other):
        return Word("+", (self, other))

    def __and__(self, other):
        return Word("&", (self, other))

    def __eq__(self, other):
        return isinstance(other, Word) and self._sign == other._sign and self._parts == other._parts

    def __len__(self):
        return len(leaves(self))

    def text(self):
        """The text, with those parentheses that it needs."""
        if len(self._parts) == 0:
            return self._sign
        first, second = self._parts
        left = part_text(first, self._sign == "&" and first.sign == "+")
        # A second part with the same sign would be read as connected from the left.
        right = part_text(second, second.sign in ("+", self._sign))
        return f"{left} {self._sign} {right}"

    def swapped(self, order):
        """The word in which the letters of an order stand in the places of a, b and c."""
        check_order(order)
        return renamed(self, {"a": order[0], "b": order[1], "c": order[2]})

    def dual(self):
        """The word in which + and &, and 0 and 1, are exchanged."""
        return renamed(self, dict(DUALS))

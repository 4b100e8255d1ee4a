"""What holds for words in all triples; the nine kinds tell it."""

from handspaces.hands import HANDS
from handspaces.triples import KINDS, PLANE
from handspaces.words import Word

PLAIN_TEXTS = (
    "0", "a & b & c", "a & b", "a & c", "b & c",
    "a & b + a & c", "a & b + b & c", "a & c + b & c", "a & b + a & c + b & c",
    "a & (b + c)", "b & (a + c)", "c & (a + b)",
    "a & (b + c) + b & c", "b & (a + c) + a & c", "c & (a + b) + a & b", "(a + b) & (a + c) & (b + c)",
    "a", "b", "c", "a + b & c", "b + a & c", "c + a & b",
    "(a + b) & (a + c)", "(a + b) & (b + c)", "(a + c) & (b + c)",
    "a + b", "a + c", "b + c", "a + b + c", "1",
)


def is_within(one, other):
    """Whether the space of one mark on a kind is contained in that of another one."""
    return one == other or one == "0" or other == "1"


def sum_mark(one, other):
    """The mark of the sum of the spaces of two marks."""
    if is_within(one, other):
        return other
    # On the plane, two different lines together are all.
    return one if is_within(other, one) else "1"


def common_mark(one, other):
    """The mark of the intersection of the spaces of two marks."""
    if is_within(one, other):
        return one
    return other if is_within(other, one) else "0"


def letter_mark(hand, kind):
    """The mark of the space of a hand on a kind."""
    if kind == PLANE:
        return hand
    return "1" if hand in kind else "0"


def mark(word, kind):
    """The word of one sign, a string, that has the same value on a kind; 0 or 1 on a line."""
    if word.sign in HANDS:
        return letter_mark(word.sign, kind)
    if len(word.parts) == 0:
        return word.sign
    first, second = [mark(part, kind) for part in word.parts]
    return sum_mark(first, second) if word.sign == "+" else common_mark(first, second)


def marks(word):
    """The values of a word on the nine kinds."""
    told = {kind: mark(word, kind) for kind in KINDS}
    return {kind: told[kind] if kind == PLANE else int(told[kind]) for kind in KINDS}


def within_on(one, other, kind):
    """Whether a word is within another one on a kind."""
    return is_within(mark(one, kind), mark(other, kind))


def parting(one, other):
    """The first kind on which two words do not agree, or None."""
    for kind in KINDS:
        if mark(one, kind) != mark(other, kind):
            return kind
    return None


def breach(one, other):
    """The first kind on which one word is not within another one, or None."""
    for kind in KINDS:
        if not within_on(one, other, kind):
            return kind
    return None


def same(one, other):
    """Whether two words have the same value in all triples."""
    return parting(one, other) is None


def below(one, other):
    """Whether the value of one word is contained in that of another one in all triples."""
    return breach(one, other) is None


def plain_words():
    """The thirty words, one for each value that words can have."""
    return [Word.read(text) for text in PLAIN_TEXTS]


def plain(word):
    """The one of the thirty words that is the same as a word."""
    told = marks(word)
    return [candidate for candidate in plain_words() if marks(candidate) == told][0]

"""Claims about the dimensions of words in all triples."""

from handspaces.classes import mark
from handspaces.errors import BadColumn, BadText
from handspaces.pieces import LAYERS
from handspaces.triples import KINDS, check_kind, check_numbers, kind_length, value
from handspaces.words import Word, read_word

MOST_DIGITS = 30
# Each parenthesis that a text needs stands with at least five more characters: "a + (" and ")".
NEEDED_LENGTH = 6


def coefficient(word, kind):
    """The dimension of a word in the triple of a kind."""
    told = mark(word, kind)
    if told == "0":
        return 0
    return kind_length(kind) if told == "1" else 1


def coefficients(word):
    """The dimensions of a word in the triples of the nine kinds."""
    return {kind: coefficient(word, kind) for kind in KINDS}


def weighed(sums, numbers):
    """The sum of what a dict tells of the kinds, each times how many there are of it."""
    return sum([many * sums[kind] for kind, many in numbers.items()])


def read_integer(text):
    """The integer with a text; needless signs and zeros are not looked at here."""
    digits = text[1:] if text.startswith("-") else text
    if not digits.isascii() or not digits.isdigit() or len(digits) > MOST_DIGITS:
        raise BadText()
    return int(text)


def read_term(text):
    """The integer and the word of a part of the text of a claim."""
    number, _, rest = text.partition(" |")
    if not rest.endswith("|"):
        raise BadText()
    # The text of a word in a claim may need more parentheses than can be read by themselves.
    try:
        word = read_word(rest[:-1], len(rest) // NEEDED_LENGTH)
    except BadColumn:
        raise BadText() from None
    return read_integer(number), word


class Claim:
    """That a sum of dimensions of words, each times an integer, is at least 0; it never changes."""

    def __init__(self, terms):
        self._terms = tuple(terms)

    @classmethod
    def read(cls, text):
        """The claim with a text."""
        parts = text.split(", ") if text else []
        claim = cls([read_term(part) for part in parts])
        # Needless zeros, spaces and parentheses show only here.
        if claim.text() != text:
            raise BadText()
        return claim

    @property
    def terms(self):
        """The tuple of the terms: tuples of an integer and a word."""
        return self._terms

    def __eq__(self, other):
        return isinstance(other, Claim) and self.on_kinds() == other.on_kinds()

    def __add__(self, other):
        return Claim(self._terms + other._terms)

    def __neg__(self):
        return self * -1

    def __sub__(self, other):
        return self + -other

    def __mul__(self, other):
        return Claim([(number * other, word) for number, word in self._terms])

    def on(self, triple):
        """The sum of the claim in a triple."""
        return sum([number * len(value(word, triple)) for number, word in self._terms])

    def total(self, numbers):
        """The sum of the claim in the triples with nine numbers."""
        check_numbers(numbers)
        return weighed(self.on_kinds(), numbers)

    def on_kinds(self):
        """The sums of the claim in the triples of the nine kinds."""
        return {
            kind: sum([number * coefficient(word, kind) for number, word in self._terms])
            for kind in KINDS
        }

    def text(self):
        """The text of the claim."""
        return ", ".join([f"{number} |{word.text()}|" for number, word in self._terms])


def refuting(claim):
    """The first kind in whose triple the sum of a claim is below 0, or None."""
    for kind, total in claim.on_kinds().items():
        if total < 0:
            return kind
    return None


def holds(claim):
    """Whether the sum of a claim is at least 0 in every triple."""
    return refuting(claim) is None


def number_claim(kind):
    """A claim whose sum in every triple is the number of a kind."""
    check_kind(kind)
    inner, outer = LAYERS[kind]
    return Claim([(1, Word.read(outer)), (-1, Word.read(inner))])

"""Triples of spaces, one for each hand, and the values of words in them."""

from handspaces.errors import BadNumbers, NoKind, TooGreat, UnlikeSpaces
from handspaces.hands import HANDS, check_hand, check_order
from handspaces.rests import check_prime, is_integer
from handspaces.rows import added, unit_rows, zero_row
from handspaces.spaces import LONGEST, Space, check_like

PLANE = "plane"
LINES = ("", "a", "b", "c", "ab", "ac", "bc", "abc")
KINDS = ("", "a", "b", "c", "ab", "ac", "bc", "abc", "plane")


def space_beside(one, other):
    """The space of the vectors of one space followed by those of another one."""
    left = [row + zero_row(other.length) for row in one.basis()]
    right = [zero_row(one.length) + row for row in other.basis()]
    return Space(one.prime, one.length + other.length, left + right)


class Triple:
    """Three spaces of one prime and length, one for each hand; it never changes."""

    def __init__(self, a, b, c):
        check_like(a, b)
        check_like(a, c)
        self._a = a
        self._b = b
        self._c = c

    @property
    def a(self):
        """The space of the hand a."""
        return self._a

    @property
    def b(self):
        """The space of the hand b."""
        return self._b

    @property
    def c(self):
        """The space of the hand c."""
        return self._c

    @property
    def prime(self):
        """The prime of the spaces."""
        return self._a.prime

    @property
    def length(self):
        """The length of the vectors of the spaces."""
        return self._a.length

    def __getitem__(self, hand):
        check_hand(hand)
        if hand == "a":
            return self._a
        return self._b if hand == "b" else self._c

    def __iter__(self):
        raise TypeError("a triple is not iterated over")

    def __eq__(self, other):
        return (isinstance(other, Triple) and self._a == other._a
                and self._b == other._b and self._c == other._c)

    def changed(self, hand, space):
        """The triple in which a hand has another space."""
        check_hand(hand)
        spaces = [space if hand == name else self[name] for name in HANDS]
        return Triple(*spaces)

    def swapped(self, order):
        """The triple in which a, b and c have the spaces of the hands of an order."""
        check_order(order)
        spaces = [self[hand] for hand in order]
        return Triple(*spaces)

    def beside(self, other):
        """This triple beside another one."""
        if self.prime != other.prime:
            raise UnlikeSpaces()
        check_longest(self.length + other.length)
        spaces = [space_beside(self[hand], other[hand]) for hand in HANDS]
        return Triple(*spaces)


def check_longest(length):
    """Raise an error if no triple has this length."""
    if length > LONGEST:
        raise TooGreat(length)


def value(word, triple):
    """The value of a word in a triple, a space."""
    if word.sign in HANDS:
        return triple[word.sign]
    if word.sign == "0":
        return Space.nothing(triple.prime, triple.length)
    if word.sign == "1":
        return Space.whole(triple.prime, triple.length)
    first, second = [value(part, triple) for part in word.parts]
    return first + second if word.sign == "+" else first & second


def check_kind(kind):
    """Raise an error unless a value is a kind."""
    if kind not in KINDS:
        raise NoKind(kind)


def kind_length(kind):
    """The length of the triple of a kind."""
    return 2 if kind == PLANE else 1


def given(kind, rows, hand, prime):
    """The vectors that a piece, a kind and its vectors, gives to a hand."""
    if kind != PLANE:
        return list(rows) if hand in kind else []
    first, second = rows
    if hand == "a":
        return [first]
    return [second] if hand == "b" else [added(first, 1, second, prime)]


def kind_triple(prime, kind):
    """The triple of a kind."""
    check_prime(prime)
    check_kind(kind)
    length = kind_length(kind)
    spaces = [Space(prime, length, given(kind, unit_rows(length), hand, prime)) for hand in HANDS]
    return Triple(*spaces)


def has_all_kinds(table):
    """Whether the keys of a dict are the nine kinds."""
    return len(table) == len(KINDS) and all([kind in table for kind in KINDS])


def check_numbers(numbers):
    """Raise an error unless a dict tells for kinds how often they are taken."""
    for kind, many in numbers.items():
        if kind not in KINDS or not is_integer(many) or many < 0:
            raise BadNumbers()


def triple_length(numbers):
    """The length of the triples with the nine numbers of a dict."""
    return sum([kind_length(kind) * many for kind, many in numbers.items()])


def check_triples(prime, numbers):
    """Raise an error unless there are triples of this prime with the nine numbers of a dict."""
    check_prime(prime)
    check_numbers(numbers)
    check_longest(triple_length(numbers))


def triple_of(prime, numbers):
    """The triple of kinds beside one another, each as often as a dict tells."""
    check_triples(prime, numbers)
    empty = Space.nothing(prime, 0)
    triple = Triple(empty, empty, empty)
    for kind in KINDS:
        for _ in range(numbers.get(kind, 0)):
            triple = triple.beside(kind_triple(prime, kind))
    return triple

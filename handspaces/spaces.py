"""Spaces of vectors modulo a prime."""

from handspaces.errors import BadLength, BadMatrix, BadPrime, BadText, BadVector, NotWithin, UnlikeSpaces
from handspaces.rests import check_prime, is_integer
from handspaces.rows import all_sums, common_rows, is_row, lead, reduced, rest_of, row_of, sent, unit_rows, zero_row

LONGEST = 12
MOST_DIGITS = 2


def check_length(length):
    """Raise an error unless a value is the length of the vectors of a space."""
    if not is_integer(length) or length < 0 or length > LONGEST:
        raise BadLength(length)


def check_size(prime, length):
    """Raise an error unless there are spaces of this prime and length."""
    check_prime(prime)
    check_length(length)


def check_like(one, other):
    """Raise an error unless two spaces have the same prime and length."""
    if one.prime != other.prime or one.length != other.length:
        raise UnlikeSpaces()


def checked_row(vector, prime, length):
    """The row of a vector, after a look at whether it is one of this length."""
    if not is_row(vector, length):
        raise BadVector(vector)
    return row_of(vector, prime)


def read_numbers(text):
    """The numbers of one part of the text of a space."""
    words = text.split(" ")
    if not all([word.isascii() and word.isdigit() and len(word) <= MOST_DIGITS for word in words]):
        raise BadText()
    return [int(word) for word in words]


def spaced(parts):
    """The text of numbers or strings with single spaces between them."""
    return " ".join([str(part) for part in parts])


class Space:
    """The space of the sums of multiples of some vectors; it never changes."""

    def __init__(self, prime, length, vectors=()):
        check_size(prime, length)
        rows = [checked_row(vector, prime, length) for vector in vectors]
        self._prime = prime
        self._length = length
        self._rows = tuple(reduced(rows, prime))

    @classmethod
    def nothing(cls, prime, length):
        """The space that has only the vector of zeros."""
        return cls(prime, length)

    @classmethod
    def whole(cls, prime, length):
        """The space of all vectors."""
        check_size(prime, length)
        return cls(prime, length, unit_rows(length))

    @classmethod
    def read(cls, text):
        """The space with a text."""
        size, *rows = [read_numbers(part) for part in text.split("; ")]
        if len(size) != 2:
            raise BadText()
        try:
            space = cls(size[0], size[1], rows)
        except (BadPrime, BadLength, BadVector):
            raise BadText() from None
        # Needless zeros, and vectors that are not the reduced basis, show only here.
        if space.text() != text:
            raise BadText()
        return space

    @property
    def prime(self):
        """The prime."""
        return self._prime

    @property
    def length(self):
        """The length of the vectors."""
        return self._length

    def __len__(self):
        return len(self._rows)

    def __eq__(self, other):
        return (isinstance(other, Space) and self._prime == other._prime
                and self._length == other._length and self._rows == other._rows)

    def __le__(self, other):
        check_like(self, other)
        return all([row in other for row in self._rows])

    def __add__(self, other):
        check_like(self, other)
        return Space(self._prime, self._length, self._rows + other._rows)

    def __and__(self, other):
        check_like(self, other)
        rows = common_rows(self._rows, other._rows, self._prime, self._length)
        return Space(self._prime, self._length, rows)

    def __contains__(self, vector):
        return self.rest(vector) == zero_row(self._length)

    def basis(self):
        """The reduced basis, a list of tuples."""
        return list(self._rows)

    def rest(self, vector):
        """The vector that differs by one of the space and has 0 where the basis has its first 1s."""
        row = checked_row(vector, self._prime, self._length)
        return rest_of(row, self._rows, self._prime)

    def vectors(self):
        """A generator of all vectors of the space, in ascending order."""
        start = zero_row(self._length)
        yield from all_sums(self._rows, self._prime, start)

    def text(self):
        """The text of the space: prime, length and reduced basis."""
        parts = [(self._prime, self._length), *self._rows]
        return "; ".join([spaced(part) for part in parts])


def extension(inner, outer):
    """Vectors that together with a basis of the inner space are a basis of the outer one."""
    if not inner <= outer:
        raise NotWithin()
    # A vector of the inner space begins where one of the outer basis does, so one
    # vector for each other place gives as many independent vectors as are needed.
    taken = [lead(row) for row in inner.basis()]
    return [row for row in outer.basis() if lead(row) not in taken]


def is_square(matrix, size):
    """Whether a value is a list of as many rows, each of as many integers, as the size says."""
    if not isinstance(matrix, (list, tuple)) or len(matrix) != size:
        return False
    return all([is_row(row, size) for row in matrix])


def image(space, matrix):
    """The space of the vectors to which a matrix sends those of a space."""
    if not is_square(matrix, space.length):
        raise BadMatrix()
    rows = [sent(row, matrix, space.prime) for row in space.basis()]
    return Space(space.prime, space.length, rows)

"""Calculating with rows: tuples of integers from 0 to the prime minus 1.

Nothing here changes what it is passed. A reduced basis is a list or tuple of
rows: the first item other than 0 of each is a 1, it stands further to the right
than that of the row before, and all other rows have 0 there.
"""

from handspaces.rests import inverse, is_integer


def is_row(value, length):
    """Whether a value is a list or tuple of as many integers as the length says."""
    if not isinstance(value, (list, tuple)) or len(value) != length:
        return False
    return all([is_integer(item) for item in value])


def row_of(vector, prime):
    """The row of the items of a vector modulo the prime."""
    return tuple([item % prime for item in vector])


def zero_row(length):
    """The row of zeros."""
    return (0,) * length


def unit_rows(length):
    """The rows with a single 1, in the order of the reduced basis."""
    return [tuple([int(at == place) for at in range(length)]) for place in range(length)]


def lead(row):
    """The index of the first item other than 0, or the length if there is none."""
    for at, item in enumerate(row):
        if item != 0:
            return at
    return len(row)


def times(factor, row, prime):
    """The multiple of a row."""
    return tuple([factor * item % prime for item in row])


def added(row, factor, other, prime):
    """The sum of a row and a multiple of another one."""
    return tuple([(item + factor * more) % prime for item, more in zip(row, other)])


def rest_of(row, basis, prime):
    """What is left of a row when the rows of a reduced basis have cleared their first places."""
    for other in basis:
        factor = row[lead(other)]
        if factor != 0:
            row = added(row, -factor, other, prime)
    return row


def joined(basis, row, prime):
    """The reduced basis of the space of a reduced basis and one more row."""
    left = rest_of(row, basis, prime)
    at = lead(left)
    if at == len(left):
        return basis
    new = times(inverse(left[at], prime), left, prime)
    # Only rows that begin further to the left can have something to clear at this place.
    before = [added(other, -other[at], new, prime) for other in basis if lead(other) < at]
    after = [other for other in basis if lead(other) > at]
    return [*before, new, *after]


def reduced(rows, prime):
    """The reduced basis of the space of the sums of multiples of some rows."""
    basis = []
    for row in rows:
        basis = joined(basis, row, prime)
    return basis


def common_rows(one, other, prime, length):
    """Rows whose sums of multiples are the rows in the spaces of two reduced bases.

    In the space of all rows that are twice a row of the one, or a row of the other
    and zeros, those that begin with zeros end with a row that is in both spaces.
    """
    double = [row + row for row in one]
    for row in other:
        double = joined(double, row + zero_row(length), prime)
    return [row[length:] for row in double if lead(row) >= length]


def sent(row, matrix, prime):
    """The row to which a square matrix sends a row."""
    places = range(len(row))
    return tuple([sum([item * line[at] for item, line in zip(row, matrix)]) % prime for at in places])


def turning(rows, others, prime):
    """The matrix that sends each row of one basis of all rows to the one of another basis with its index."""
    # Clearing the first halves makes them the rows with a single 1.
    double = [row + other for row, other in zip(rows, others)]
    return [row[len(rows):] for row in reduced(double, prime)]


def all_sums(basis, prime, start):
    """A generator of the sums of one row and multiples of those of a reduced basis.

    They come in ascending order if the row has 0 at all first places of the basis:
    the multiple of each row of the basis is seen left of where the next one begins.
    """
    if len(basis) == 0:
        yield start
        return
    first, *others = basis
    for factor in range(prime):
        more = added(start, factor, first, prime)
        yield from all_sums(others, prime, more)

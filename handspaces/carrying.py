"""Triples carried to one another by a change of coordinates, and how many triples are alike."""

from handspaces.hands import HANDS
from handspaces.pieces import is_basis, pieces
from handspaces.rests import check_prime, power
from handspaces.rows import turning
from handspaces.spaces import check_length, check_like, image, is_square
from handspaces.triples import KINDS, PLANE, check_triples, triple_length


def carry(one, other):
    """A matrix that carries one triple to another one, or None if there is none."""
    check_like(one, other)
    listed, wanted = pieces(one), pieces(other)
    if [kind for kind, _ in listed] != [kind for kind, _ in wanted]:
        return None
    # Pieces of one kind are given to the hands alike, so it is enough to send vector to vector.
    rows = [row for _, vectors in listed for row in vectors]
    others = [row for _, vectors in wanted for row in vectors]
    return turning(rows, others, one.prime)


def is_carried(matrix, one, other):
    """Whether a list of rows is a matrix that carries one triple to another one."""
    check_like(one, other)
    if not is_square(matrix, one.length) or not is_basis(one, matrix):
        return False
    return all([image(one[hand], matrix) == other[hand] for hand in HANDS])


def freedom(one, other):
    """The dimension of the maps from a kind to a different one that keep the space of each hand.

    A number goes from line to line if each hand of the one is one of the other; a line
    goes to a vector of the plane that all its hands have; and a plane goes to a line by
    a map that is 0 on the spaces of the hands that the line does not have.
    """
    if one == PLANE:
        return max(0, len(other) - 1)
    if other == PLANE:
        return max(0, 2 - len(one))
    return int(all([hand in other for hand in one]))


def invertible_count(prime, size):
    """The number of all invertible matrices of a size."""
    every = power(prime, size)
    count = 1
    for dimension in range(size):
        count = count * (every - power(prime, dimension))
    return count


def keepers(prime, numbers):
    """The number of the matrices that carry a triple with these nine numbers to itself."""
    check_triples(prime, numbers)
    count = 1
    for kind, many in numbers.items():
        # The pieces of one kind are mixed by an invertible matrix; what goes to other kinds is free.
        count = count * invertible_count(prime, many)
        free = sum([often * freedom(kind, other) for other, often in numbers.items() if other != kind])
        count = count * power(prime, many * free)
    return count


def alike(prime, numbers):
    """How many triples have these nine numbers."""
    kept = keepers(prime, numbers)
    return invertible_count(prime, triple_length(numbers)) // kept


def space_count(prime, length):
    """The number of all spaces of a length."""
    counts = [1]
    for _ in range(length):
        # With one more place: a space either goes on there as its own vectors tell, in a way
        # for each choice of an item behind each vector of a basis, or it gets a new dimension.
        grown = [many * power(prime, dimension) for dimension, many in enumerate(counts)]
        counts = [many + more for many, more in zip([*grown, 0], [0, *counts])]
    return sum(counts)


def triple_count(prime, length):
    """The number of all triples of a length."""
    check_prime(prime)
    check_length(length)
    return power(space_count(prime, length), 3)


def number_rows(length, at):
    """A generator of the lists of how often the kinds from an index on can be taken, in ascending order."""
    if KINDS[at] == PLANE:
        if length % 2 == 0:
            yield [length // 2]
        return
    further = at + 1
    for many in range(length + 1):
        left = length - many
        for row in number_rows(left, further):
            yield [many, *row]


def all_numbers(length):
    """A generator of all nine numbers that a triple of a length can have, in ascending order."""
    check_length(length)
    for row in number_rows(length, 0):
        yield {kind: many for kind, many in zip(KINDS, row)}

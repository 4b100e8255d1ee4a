"""Spaces as plain sets of vectors, found without any elimination, to compare with."""

from itertools import product


def all_vectors(prime, length):
    """All vectors, in ascending order."""
    return list(product(range(prime), repeat=length))


def plus(prime, one, other):
    return tuple((x + y) % prime for x, y in zip(one, other))


def grown(prime, space, vector):
    """The least space that contains a space and a vector."""
    multiples = [tuple(k * item % prime for item in vector) for k in range(prime)]
    return frozenset(plus(prime, one, other) for one in space for other in multiples)


def span(prime, length, vectors):
    """The set of all sums of multiples of some vectors."""
    found = frozenset({(0,) * length})
    for vector in vectors:
        found = grown(prime, found, vector)
    return found


def all_spans(prime, length):
    """All spaces of a length, as sets."""
    vectors = all_vectors(prime, length)
    found = {span(prime, length, [])}
    new = list(found)
    while new:
        space = new.pop()
        for vector in vectors:
            if vector not in space:
                more = grown(prime, space, vector)
                if more not in found:
                    found.add(more)
                    new.append(more)
    return sorted(found, key=sorted)


def dimension(prime, space):
    """The dimension of a space that is a set."""
    many = 0
    while prime ** many < len(space):
        many += 1
    return many

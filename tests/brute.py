"""Spaces as plain sets of vectors, found without any elimination, to compare with."""

from itertools import product


def all_vectors(prime, length):
    """All vectors, in ascending order."""
    return list(product(range(prime), repeat=length))


def plus(prime, one, other):
    return tuple((x + y) % prime for x, y in zip(one, other))


def grown(prime, space, vector):
    """The least space that contains a space and a vector."""
    multiples = [tuple(k * item % prime for item in vector) for k in range(prime)]
    return frozenset(plus(prime, one, other) for one in space for other in multiples)


def span(prime, length, vectors):
    """The set of all sums of multiples of some vectors."""
    found = frozenset({(0,) * length})
    for vector in vectors:
        found = grown(prime, found, vector)
    return found


def all_spans(prime, length):
    """All spaces of a length, as sets."""
    vectors = all_vectors(prime, length)
    found = {span(prime, length, [])}
    new = list(found)
    while new:
        space = new.pop()
        for vector in vectors:
            if vector not in space:
                more = grown(prime, space, vector)
                if more not in found:
                    found.add(more)
                    new.append(more)
    return sorted(found, key=sorted)


def dimension(prime, space):
    """The dimension of a space that is a set."""
    many = 0
    while prime ** many < len(space):
        many += 1
    return many


def together(prime, one, other):
    """The sum of two spaces that are sets."""
    return frozenset(plus(prime, x, y) for x in one for y in other)


def tree_value(prime, length, tree, spaces):
    """The value of a tree of a word where a dict tells the sets of the hands."""
    if tree == "0":
        return span(prime, length, [])
    if tree == "1":
        return frozenset(all_vectors(prime, length))
    if isinstance(tree, str):
        return spaces[tree]
    one, other = [tree_value(prime, length, part, spaces) for part in tree[1:]]
    return together(prime, one, other) if tree[0] == "+" else one & other


def rank(prime, rows):
    """The number of independent rows: columns are cleared one after another."""
    rows = [[item % prime for item in row] for row in rows]
    found = 0
    for column in range(len(rows[0]) if rows else 0):
        chosen = next((at for at in range(found, len(rows)) if rows[at][column]), None)
        if chosen is None:
            continue
        rows[found], rows[chosen] = rows[chosen], rows[found]
        for at in range(found + 1, len(rows)):
            one, other = rows[found][column], rows[at][column]
            rows[at] = [(one * x - other * y) % prime for x, y in zip(rows[at], rows[found])]
        found += 1
    return found


def span_alike(prime, one, other):
    """Whether two lists of rows have the same sums of multiples."""
    return rank(prime, one) == rank(prime, other) == rank(prime, list(one) + list(other))


def takes_apart(prime, length, rows, pieces):
    """Whether pieces take the triple apart whose hands have the spaces of the rows of a dict."""
    got = {"a": [], "b": [], "c": []}
    every = []
    for kind, vectors in pieces:
        if len(vectors) != (2 if kind == "plane" else 1):
            return False
        every += vectors
        if kind == "plane":
            first, second = vectors
            for hand, vector in (("a", first), ("b", second), ("c", plus(prime, first, second))):
                got[hand].append(vector)
        else:
            for hand in kind:
                got[hand].append(vectors[0])
    if len(every) != length or rank(prime, every) != length:
        return False
    return all(span_alike(prime, rows[hand], got[hand]) for hand in "abc")

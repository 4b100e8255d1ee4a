"""The values of trees of words on the nine kinds, as plain sets of vectors modulo 2."""

from functools import lru_cache

from brute import dimension, span, tree_value

KINDS = ("", "a", "b", "c", "ab", "ac", "bc", "abc", "plane")
PLANE_ROWS = {"a": (1, 0), "b": (0, 1), "c": (1, 1)}


@lru_cache(maxsize=None)
def value_on(tree, kind):
    """The value of a tree in the triple of a kind."""
    if kind == "plane":
        return tree_value(2, 2, tree, {hand: span(2, 2, [row]) for hand, row in PLANE_ROWS.items()})
    return tree_value(2, 1, tree, {hand: span(2, 1, [(1,)] if hand in kind else []) for hand in "abc"})


def dimensions(tree):
    """The dimensions of a tree in the triples of the nine kinds."""
    return {kind: dimension(2, value_on(tree, kind)) for kind in KINDS}


def within_on(one, other, kind):
    """Whether a tree is within another one on a kind."""
    return value_on(one, kind) <= value_on(other, kind)


def sums(terms):
    """The sums on the nine kinds of tuples of an integer and a tree."""
    told = [(number, dimensions(tree)) for number, tree in terms]
    return {kind: sum(number * table[kind] for number, table in told) for kind in KINDS}

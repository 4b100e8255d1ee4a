"""Drawn chains and chain words, and what they stand for as plain sets."""

from brute import all_vectors, dimension, rank, span, span_alike, together

from handspaces.chains import Chains
from handspaces.spaces import Space


def drawn_chain(random, pool, prime, length, many):
    """Rows for so many spaces, each with the rows of the one before; some stay equal."""
    rows, chain = [], []
    for _ in range(many):
        rows = rows + random.choices(pool, k=random.randrange(3)) if pool else []
        if random.random() < 0.3 and pool:
            rows = rows + [[x + y for x, y in zip(*random.choices(pool, k=2))]]
        chain.append(Space(prime, length, rows))
    return chain


def drawn_chains(random, prime, length, first=None, second=None):
    """Drawn chains whose spaces share vectors."""
    pool = [[random.randrange(prime) for _ in range(length)] for _ in range(length + 1)] if length else []
    many = [random.randrange(1, 5) if told is None else told for told in (first, second)]
    return Chains(*[drawn_chain(random, pool, prime, length, told) for told in many])


def all_cells(first, second):
    return [(i, j) for i in range(1, first + 2) for j in range(1, second + 2)]


def sets_of(chain):
    return [frozenset(space.vectors()) for space in chain]


def counted_table(chains):
    """How many vectors a common basis has for each cell, by counting the vectors of intersections."""
    prime, length = chains.prime, chains.length
    nothing, whole = span(prime, length, []), frozenset(all_vectors(prime, length))
    one, other = [[nothing, *sets_of(chain), whole] for chain in (chains.first, chains.second)]
    size = [[dimension(prime, x & y) for y in other] for x in one]
    return {(i, j): size[i][j] - size[i - 1][j] - size[i][j - 1] + size[i - 1][j - 1]
            for i, j in all_cells(len(chains.first), len(chains.second))}


def is_common(chains, rows):
    """Whether rows are a common basis, by its definition and an elimination of the tests alone."""
    prime, length = chains.prime, chains.length
    p, q = len(chains.first), len(chains.second)
    if not all(1 <= i <= p + 1 and 1 <= j <= q + 1 and len(vector) == length for i, j, vector in rows):
        return False
    if len(rows) != length or rank(prime, [vector for _, _, vector in rows]) != length:
        return False
    for at, chain in enumerate((chains.first, chains.second)):
        for place, space in enumerate(chain, start=1):
            vectors = [row[2] for row in rows if row[at] <= place]
            if len(vectors) != len(space) or not span_alike(prime, vectors, space.basis()):
                return False
    return True


def drawn_chain_word(random, many, first, second):
    """A drawn chain word with so many tuples of one or two items that are no chain words."""
    if many > 1:
        less = random.randrange(1, many)
        return (random.choice("+&"), drawn_chain_word(random, less, first, second),
                drawn_chain_word(random, many - less, first, second))
    sign = random.choice("aaabbb01")
    if sign in "01":
        return (sign,)
    return sign, random.randrange(1, (first if sign == "a" else second) + 1)


def cells_in(word, first, second):
    """The set of the cells that are in a chain word."""
    every = frozenset(all_cells(first, second))
    if word[0] == "0":
        return frozenset()
    if word[0] == "1":
        return every
    if word[0] in "ab":
        return frozenset(cell for cell in every if cell["ab".index(word[0])] <= word[1])
    one, other = [cells_in(part, first, second) for part in word[1:]]
    return one | other if word[0] == "+" else one & other


def set_of_word(word, chains):
    """The set of vectors for which a chain word stands."""
    if word[0] == "0":
        return span(chains.prime, chains.length, [])
    if word[0] == "1":
        return frozenset(all_vectors(chains.prime, chains.length))
    if word[0] in "ab":
        chain = chains.first if word[0] == "a" else chains.second
        return frozenset(chain[word[1] - 1].vectors())
    one, other = [set_of_word(part, chains) for part in word[1:]]
    return together(chains.prime, one, other) if word[0] == "+" else one & other

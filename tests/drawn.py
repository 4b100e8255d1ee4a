"""Drawn words, spaces and triples."""

from brute import rank
from trees import all_trees, drawn_tree

from handspaces.spaces import Space
from handspaces.triples import Triple
from handspaces.words import Word

PRIMES = (2, 3, 5, 7, 11, 13)
KINDS = ("", "a", "b", "c", "ab", "ac", "bc", "abc", "plane")


def made(tree):
    """The word of a tree, by the constructor."""
    return Word(tree) if isinstance(tree, str) else Word(tree[0], [made(part) for part in tree[1:]])


def some_trees(random, many):
    """Small trees of all shapes, and drawn ones up to 24 leaves."""
    small = [tree for size in (1, 2, 3) for tree in all_trees(size, "ab1")]
    return small + all_trees(4, "a") + [drawn_tree(random, 1 + at % 24) for at in range(many)]


def drawn_word(random, most=8, leaves="abcabc01"):
    return made(drawn_tree(random, random.randrange(1, most + 1), leaves))


def drawn_space(random, prime, length, dimension=None):
    """A drawn space with at most so many dimensions; all numbers of vectors are likely."""
    many = random.randrange(length + 1) if dimension is None else dimension
    return Space(prime, length, [[random.randrange(prime) for _ in range(length)] for _ in range(many)])


def drawn_triple(random, prime, length):
    """A drawn triple; some of its spaces share vectors, so that all kinds are likely."""
    pool = [[random.randrange(prime) for _ in range(length)] for _ in range(length + 1)]
    spaces = []
    for _ in range(3):
        chosen = random.sample(pool, random.randrange(length + 1))
        mixed = [[x + y for x, y in zip(*random.choices(pool, k=2))] for _ in range(random.randrange(2))]
        spaces.append(Space(prime, length, chosen + mixed))
    return Triple(*spaces)


def drawn_numbers(random, length):
    """Drawn nine numbers of triples of a length."""
    numbers = dict.fromkeys(KINDS, 0)
    while length > 0:
        kind = random.choice(KINDS)
        size = 2 if kind == "plane" else 1
        if size <= length:
            numbers[kind] += 1
            length -= size
    return numbers


def drawn_matrix(random, prime, size):
    """A drawn invertible matrix."""
    while True:
        rows = [tuple(random.randrange(prime) for _ in range(size)) for _ in range(size)]
        if rank(prime, rows) == size:
            return rows


def sent_to(prime, vector, matrix):
    return tuple(sum(x * row[at] for x, row in zip(vector, matrix)) % prime for at in range(len(vector)))


def hand_rows(numbers):
    """For each hand the unit vectors and sums that it has in a triple put together of kinds."""
    length = sum(many * (2 if kind == "plane" else 1) for kind, many in numbers.items())
    units = [tuple(int(at == place) for at in range(length)) for place in range(length)]
    rows = {"a": [], "b": [], "c": []}
    at = 0
    for kind in KINDS:
        for _ in range(numbers.get(kind, 0)):
            if kind == "plane":
                rows["a"].append(units[at])
                rows["b"].append(units[at + 1])
                rows["c"].append(tuple(x + y for x, y in zip(units[at], units[at + 1])))
                at += 2
            else:
                for hand in kind:
                    rows[hand].append(units[at])
                at += 1
    return length, rows


def mixed_triple(random, prime, numbers):
    """A triple with these nine numbers, in drawn coordinates."""
    length, rows = hand_rows(numbers)
    matrix = drawn_matrix(random, prime, length)
    return Triple(*[Space(prime, length, [sent_to(prime, row, matrix) for row in rows[hand]]) for hand in "abc"])


def drawn_terms(random, most=6, size=5, great=3):
    """Drawn tuples of an integer and a tree."""
    return [(random.randrange(-great, great + 1), drawn_tree(random, random.randrange(1, size + 1), "abcabc01"))
            for _ in range(random.randrange(most + 1))]


def made_terms(terms):
    """The tuples of an integer and a word for tuples of an integer and a tree."""
    return [(number, made(tree)) for number, tree in terms]

"""Two chains of spaces: bases common to both, and what holds for words in them."""

from handspaces.errors import BadOrder, NoCell, NoSpace, NotWithin
from handspaces.rests import check_prime, is_integer
from handspaces.rows import is_row, turning, unit_rows
from handspaces.spaces import Space, check_like, extension

LONGEST_ORDER = 4


def check_growing(chain):
    """Raise an error unless each space of a chain is contained in the next one."""
    for one, other in zip(chain, chain[1:]):
        if not one <= other:
            raise NotWithin()


class Chains:
    """Two chains of spaces of one prime and length; they never change."""

    def __init__(self, first, second):
        self._first = tuple(first)
        self._second = tuple(second)
        for space in self._first + self._second:
            check_like(self._first[0], space)
        check_growing(self._first)
        check_growing(self._second)

    @property
    def first(self):
        """The tuple of the spaces of the first chain."""
        return self._first

    @property
    def second(self):
        """The tuple of the spaces of the second chain."""
        return self._second

    @property
    def prime(self):
        """The prime of the spaces."""
        return self._first[0].prime

    @property
    def length(self):
        """The length of the vectors of the spaces."""
        return self._first[0].length


def cells(first, second):
    """All cells of two chains with so many spaces, in ascending order."""
    return [(i, j) for i in range(1, first + 2) for j in range(1, second + 2)]


def is_cell(cell, first, second):
    """Whether a value is a cell of two chains with so many spaces."""
    return (isinstance(cell, tuple) and len(cell) == 2 and all([is_integer(item) for item in cell])
            and 1 <= cell[0] <= first + 1 and 1 <= cell[1] <= second + 1)


def bordered(chain):
    """The spaces of a chain behind the least space, and the space of all vectors behind them."""
    prime, length = chain[0].prime, chain[0].length
    return [Space.nothing(prime, length), *chain, Space.whole(prime, length)]


def layers(chains):
    """For each cell what is in both of its spaces: what smaller cells have of it, and all of it."""
    first, second = bordered(chains.first), bordered(chains.second)
    common = [[one & other for other in second] for one in first]
    return {
        (i, j): (common[i - 1][j] + common[i][j - 1], common[i][j])
        for i, j in cells(len(chains.first), len(chains.second))
    }


def common_basis(chains):
    """A common basis of two chains: tuples of the two integers of a cell and a vector."""
    return [
        (i, j, vector) for (i, j), (inner, outer) in layers(chains).items()
        for vector in extension(inner, outer)
    ]


def is_filled(chains, rows):
    """Whether each space of two chains has just the vectors of its cells as a basis, if all are independent."""
    prime, length = chains.prime, chains.length
    for at, chain in enumerate([chains.first, chains.second]):
        for place, space in enumerate(chain, start=1):
            vectors = [row[2] for row in rows if row[at] <= place]
            if Space(prime, length, vectors) != space:
                return False
    return True


def is_common_basis(chains, rows):
    """Whether a list of tuples of two integers and a vector is a common basis of two chains."""
    first, second = len(chains.first), len(chains.second)
    if len(rows) != chains.length:
        return False
    if not all([is_cell((i, j), first, second) and is_row(vector, chains.length) for i, j, vector in rows]):
        return False
    every = Space(chains.prime, chains.length, [vector for _, _, vector in rows])
    return len(every) == chains.length and is_filled(chains, rows)


def cell_table(chains):
    """How many vectors a common basis of two chains has for each cell."""
    return {cell: len(outer) - len(inner) for cell, (inner, outer) in layers(chains).items()}


def check_chain_word(word, first, second):
    """Raise an error if a chain word names a space that two chains with so many spaces do not have."""
    if word[0] in ("+", "&"):
        check_chain_word(word[1], first, second)
        check_chain_word(word[2], first, second)
    elif word[0] in ("a", "b"):
        last = first if word[0] == "a" else second
        if not is_integer(word[1]) or not 1 <= word[1] <= last:
            raise NoSpace(word)


def space_of(word, chains):
    """The space for which a chain word stands, which names only spaces of the chains."""
    if word[0] == "0":
        return Space.nothing(chains.prime, chains.length)
    if word[0] == "1":
        return Space.whole(chains.prime, chains.length)
    if word[0] in ("a", "b"):
        chain = chains.first if word[0] == "a" else chains.second
        return chain[word[1] - 1]
    one, other = [space_of(part, chains) for part in word[1:]]
    return one + other if word[0] == "+" else one & other


def chain_value(word, chains):
    """The space for which a chain word stands."""
    check_chain_word(word, len(chains.first), len(chains.second))
    return space_of(word, chains)


def is_in(cell, word):
    """Whether a cell is in a chain word."""
    if word[0] in ("0", "1"):
        return word[0] == "1"
    if word[0] in ("a", "b"):
        place = cell[0] if word[0] == "a" else cell[1]
        return place <= word[1]
    parts = [is_in(cell, part) for part in word[1:]]
    return any(parts) if word[0] == "+" else all(parts)


def chain_cells(word, first, second):
    """The cells that are in a chain word, in ascending order."""
    check_chain_word(word, first, second)
    return [cell for cell in cells(first, second) if is_in(cell, word)]


def first_of(found):
    """The first item of a list, or None."""
    return found[0] if len(found) > 0 else None


def chain_parting(one, other, first, second):
    """The first cell that is in just one of two chain words, or None."""
    inner, outer = chain_cells(one, first, second), chain_cells(other, first, second)
    return first_of([cell for cell in cells(first, second) if (cell in inner) != (cell in outer)])


def chain_breach(one, other, first, second):
    """The first cell that is in one chain word and not in another one, or None."""
    inner, outer = chain_cells(one, first, second), chain_cells(other, first, second)
    return first_of([cell for cell in inner if cell not in outer])


def step_chain(prime, many, at):
    """So many spaces of the length 1: those from a place on have all vectors, those before have none."""
    return [Space.whole(prime, 1) if place >= at else Space.nothing(prime, 1) for place in range(1, many + 1)]


def cell_chains(prime, first, second, cell):
    """Chains of the length 1 whose common bases have their vector in a cell."""
    check_prime(prime)
    if not is_cell(cell, first, second):
        raise NoCell(cell)
    return Chains(step_chain(prime, first, cell[0]), step_chain(prime, second, cell[1]))


def corner_word(cell, first, second):
    """The chain word that has a cell and all cells with no greater integers."""
    i, j = cell
    if i > first:
        return ("1",) if j > second else ("b", j)
    return ("a", i) if j > second else ("&", ("a", i), ("b", j))


def form_of(corners, first, second):
    """The sum of the chain words of some cells."""
    if len(corners) == 0:
        return ("0",)
    form, *others = [corner_word(cell, first, second) for cell in corners]
    for word in others:
        form = ("+", form, word)
    return form


def plain_chain_word(word, first, second):
    """The form of a chain word: two of them are equal exactly if they always stand for the same space."""
    found = chain_cells(word, first, second)
    corners = [(i, j) for i, j in found if (i + 1, j) not in found and (i, j + 1) not in found]
    return form_of(corners, first, second)


def stairs(many, greatest):
    """A generator of the lists of so many integers, none below 0 or above the one before it or the greatest."""
    if many == 0:
        yield []
        return
    others = many - 1
    for height in range(greatest + 1):
        for row in stairs(others, height):
            yield [height, *row]


def corners_of(heights):
    """The greatest cells, where each first integer goes with the second ones up to a height."""
    below = [*heights[1:], 0]
    return [(i, j) for i, (j, less) in enumerate(zip(heights, below), start=1) if j > less]


def plain_chain_words(first, second):
    """A generator of all forms of chain words, each once."""
    many = first + 1
    greatest = second + 1
    for heights in stairs(many, greatest):
        yield form_of(corners_of(heights), first, second)


def is_full(chain):
    """Whether a chain has spaces of the dimensions 1, 2, .., length, each once."""
    return [len(space) for space in chain] == list(range(1, chain[0].length + 1))


def position(chains):
    """For each space of the first chain the one of the second chain with which it gets its vector, or None."""
    if not is_full(chains.first) or not is_full(chains.second):
        return None
    return tuple([j for _, j, _ in common_basis(chains)])


def is_order(order):
    """Whether a value is a list of the integers from 1 to its length, each once, with 1 to 4 items."""
    if not isinstance(order, (list, tuple)) or len(order) == 0 or len(order) > LONGEST_ORDER:
        return False
    return all([is_integer(item) for item in order]) and all([at in order for at in range(1, len(order) + 1)])


def chains_at(prime, order):
    """Two full chains that have an order as their position."""
    check_prime(prime)
    if not is_order(order):
        raise BadOrder(order)
    size = len(order)
    units = unit_rows(size)
    ends = range(1, size + 1)
    first = [Space(prime, size, units[:end]) for end in ends]
    second = [Space(prime, size, [row for row, j in zip(units, order) if j <= end]) for end in ends]
    return Chains(first, second)


def carry_chains(one, other):
    """A matrix that sends each space of two chains to the one with its place in two other chains, or None."""
    check_like(one, other)
    if cell_table(one) != cell_table(other):
        return None
    # The common bases have their cells in the same order, so vectors go to vectors of their cell.
    rows = [vector for _, _, vector in common_basis(one)]
    others = [vector for _, _, vector in common_basis(other)]
    return turning(rows, others, one.prime)

"""Triples taken apart into pieces, each a kind and its vectors."""

from handspaces.hands import HANDS
from handspaces.rows import reduced, rest_of, zero_row
from handspaces.spaces import Space, extension
from handspaces.triples import KINDS, PLANE, given, kind_length, value
from handspaces.words import Word

# For each kind two words; the value of the first lies within that of the second in
# all triples, and their dimensions differ by the number of the pieces of the kind.
LAYERS = {
    "": ("a + b + c", "1"),
    "a": ("a & (b + c)", "a"),
    "b": ("b & (a + c)", "b"),
    "c": ("c & (a + b)", "c"),
    "ab": ("a & b & c", "a & b"),
    "ac": ("a & b & c", "a & c"),
    "bc": ("a & b & c", "b & c"),
    "abc": ("0", "a & b & c"),
    "plane": ("a & b + a & c", "a & (b + c)"),
}


def layer(triple, kind):
    """The values in a triple of the two words of a kind."""
    inner, outer = LAYERS[kind]
    return value(Word.read(inner), triple), value(Word.read(outer), triple)


def partner(triple, vector):
    """A vector of b whose sum with a vector of a & (b + c) is in c."""
    zeros = zero_row(triple.length)
    twice = [row + row for row in triple.b.basis()]
    once = [row + zeros for row in triple.c.basis()]
    # What clears the first half of the row is the sum of a vector of b and one of c;
    # the second half takes only the vector of b along, and shows its opposite.
    left = rest_of(vector + zeros, reduced(twice + once, triple.prime), triple.prime)
    return left[triple.length:]


def vectors_of_piece(triple, kind, vector):
    """The tuple of the vectors of a piece that has this first vector."""
    return (vector, partner(triple, vector)) if kind == PLANE else (vector,)


def pieces_of_kind(triple, kind):
    """The pieces of one kind."""
    inner, outer = layer(triple, kind)
    return [(kind, vectors_of_piece(triple, kind, vector)) for vector in extension(inner, outer)]


def pieces(triple):
    """A list of pieces that takes a triple apart, the kinds in their order."""
    return [piece for kind in KINDS for piece in pieces_of_kind(triple, kind)]


def is_basis(triple, rows):
    """Whether vectors are a basis of the space of all vectors of the length of a triple."""
    return len(rows) == triple.length and len(Space(triple.prime, triple.length, rows)) == triple.length


def is_apart(triple, pieces):
    """Whether a list of pieces takes a triple apart."""
    if not all([len(rows) == kind_length(kind) for kind, rows in pieces]):
        return False
    if not is_basis(triple, [row for kind, rows in pieces for row in rows]):
        return False
    for hand in HANDS:
        got = [row for kind, rows in pieces for row in given(kind, rows, hand, triple.prime)]
        if Space(triple.prime, triple.length, got) != triple[hand]:
            return False
    return True


def nine_numbers(triple):
    """The dict that tells how many pieces of each kind there are."""
    numbers = {}
    for kind in KINDS:
        inner, outer = layer(triple, kind)
        numbers[kind] = len(outer) - len(inner)
    return numbers

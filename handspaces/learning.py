"""What changes if a hand learns one more sum."""

from handspaces.errors import Barred, BadMove
from handspaces.hands import HANDS, check_hand
from handspaces.pieces import nine_numbers, pieces
from handspaces.rests import power
from handspaces.rows import added, zero_row
from handspaces.sizes import weighed
from handspaces.spaces import Space, checked_row
from handspaces.triples import KINDS, PLANE, check_numbers, given


def other_hands(hand):
    """The two other hands, in alphabetical order."""
    return [other for other in HANDS if other != hand]


def line_of(one, other):
    """The line of two hands."""
    return "".join([hand for hand in HANDS if hand in (one, other)])


def moves(hand):
    """The six moves of a hand."""
    check_hand(hand)
    one, other = other_hands(hand)
    near, far = line_of(hand, one), line_of(hand, other)
    return [
        (hand, ("",), (hand,)),
        (hand, (one,), (near,)),
        (hand, (other,), (far,)),
        (hand, (line_of(one, other),), ("abc",)),
        (hand, (one, other), (PLANE,)),
        (hand, (PLANE,), (near, far)),
    ]


def all_moves():
    """The eighteen moves."""
    return [move for hand in HANDS for move in moves(hand)]


def check_move(move):
    """Raise an error unless a value is one of the eighteen moves."""
    if move not in all_moves():
        raise BadMove(move)


def reaches(triple, hand):
    """The spaces that tell moves of a hand apart.

    They are its sums with the one hand, with the other one, with what both of these have,
    and with both.
    """
    own, (one, other) = triple[hand], [triple[name] for name in other_hands(hand)]
    return own + one, own + other, own + (one & other), own + one + other


def move_index(triple, hand, row):
    """The index among the hand's moves of the one that a vector brings about that it does not have."""
    near, far, common, every = reaches(triple, hand)
    if row not in every:
        return 0
    if row in common:
        return 3
    if row in near:
        return 5 if row in far else 1
    return 2 if row in far else 4


def learn(triple, hand, vector):
    """The triple in which a hand has learned a vector, and the move; None in its place if it had it already."""
    check_hand(hand)
    row = checked_row(vector, triple.prime, triple.length)
    space = triple[hand]
    if row in space:
        return triple, None
    more = space + Space(triple.prime, triple.length, [row])
    return triple.changed(hand, more), moves(hand)[move_index(triple, hand, row)]


def ways(triple, hand):
    """Of how many vectors the learning brings about each move, and how many vectors are no news."""
    check_hand(hand)
    near, far, common, every = reaches(triple, hand)
    own, in_near, in_far, in_both, in_common, in_every = [
        power(triple.prime, len(space)) for space in (triple[hand], near, far, near & far, common, every)
    ]
    counts = [
        power(triple.prime, triple.length) - in_every,
        in_near - in_both,
        in_far - in_both,
        in_common - own,
        in_every - in_near - in_far + in_both,
        in_both - in_common,
        own,
    ]
    return {move: count for move, count in zip([*moves(hand), None], counts)}


def vector_of_piece(piece, hand, prime):
    """The vector of a line, or one of a plane that a hand does not have."""
    kind, vectors = piece
    return vectors[0] if kind != PLANE else given(kind, vectors, other_hands(hand)[0], prime)[0]


def vector_for(triple, move):
    """A vector whose learning brings a move about, or None."""
    check_move(move)
    hand, taken, _ = move
    found = pieces(triple)
    vector = zero_row(triple.length)
    for kind in taken:
        fitting = [piece for piece in found if piece[0] == kind]
        if len(fitting) == 0:
            return None
        # The sum of a vector of each of two lines spans, with the lines, a plane.
        vector = added(vector, 1, vector_of_piece(fitting[0], hand, triple.prime), triple.prime)
    return vector


def is_barred(numbers, move):
    """Whether there is not each kind that a move takes."""
    return any([numbers[kind] == 0 for kind in move[1]])


def after(numbers, move):
    """The nine numbers after a move."""
    _, taken, gained = move
    return {kind: many - taken.count(kind) + gained.count(kind) for kind, many in numbers.items()}


def all_nine(numbers):
    """The nine numbers, all in their order, of a dict that need not have all kinds."""
    check_numbers(numbers)
    return {kind: numbers.get(kind, 0) for kind in KINDS}


def moved(numbers, row):
    """The nine numbers after a list of moves."""
    told = all_nine(numbers)
    for move in row:
        check_move(move)
    for spot, move in enumerate(row):
        if is_barred(told, move):
            raise Barred(spot)
        told = after(told, move)
    return told


def teaching(triple, row):
    """What hands have to learn for a list of moves to come about: tuples of a hand and a vector."""
    # This raises the errors for moves that there are not, or that are barred.
    moved(nine_numbers(triple), row)
    steps = []
    for move in row:
        vector = vector_for(triple, move)
        steps.append((move[0], vector))
        triple, _ = learn(triple, move[0], vector)
    return steps


def nexts(numbers):
    """The moves that can be made next, each with the nine numbers after it."""
    return [(move, after(numbers, move)) for move in all_moves() if not is_barred(numbers, move)]


def shortest(numbers, is_wanted):
    """A shortest list of moves from nine numbers to such that are wanted, or None."""
    seen = {tuple(numbers.values()): True}
    level = [(numbers, [])]
    while len(level) > 0:
        further = []
        for told, row in level:
            if is_wanted(told):
                return row
            for move, more in nexts(told):
                key = tuple(more.values())
                if key not in seen:
                    seen[key] = True
                    further.append((more, [*row, move]))
        level = further
    return None


def fewest(numbers, claims):
    """A shortest list of moves after which the sums of all claims are at least 0, or None."""
    start = all_nine(numbers)
    tables = [claim.on_kinds() for claim in claims]
    return shortest(start, lambda told: all([weighed(table, told) >= 0 for table in tables]))


def between(numbers, goal):
    """A list of moves that leads from nine numbers to other ones, or None."""
    start, end = all_nine(numbers), all_nine(goal)
    return shortest(start, lambda told: told == end)

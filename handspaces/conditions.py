"""Whether integers that are at least 0 keep some conditions: such integers, or weights that show there are none.

A condition is a row, a list of integers. Numbers keep a weak condition if the sum of the
numbers, each times the integer of the row with its index, is at least 0, and a strict one if
the sum is above 0. Weights are integers that are at least 0, one for each weak condition, one
for each strict one, of which one is above 0, and one for each number: the rows, each times its
weight, and the weights of the numbers add up to zeros. So the sum of a strict condition could
be above 0 only if another sum were below 0.
"""

from math import gcd, lcm


def lowest(row):
    """A row divided by the greatest integer that divides all its items."""
    common = 0
    for item in row:
        common = gcd(common, item)
    return [item // common for item in row] if common > 1 else row


def cleared(row, at, pivot):
    """A multiple of a row, by a number above 0, to which another row is added so that it has 0 at an index."""
    return lowest([pivot[at] * item - row[at] * other for item, other in zip(row, pivot)])


def equations(rows, many):
    """For each of so many numbers the equation that weights have to keep, by the index of the number's weight."""
    table = {}
    for place in range(many):
        own = [int(at == place) for at in range(many)]
        table[len(rows) + place] = [row[place] for row in rows] + own
    return table


def first_above(row):
    """The index of the first item of a row that is above 0, or None."""
    for at, item in enumerate(row):
        if item > 0:
            return at
    return None


def first_bound(table, at):
    """The first of the solved weights that would fall if the weight at an index grew, or None."""
    bound = None
    for solved, row in table.items():
        if row[at] > 0 and (bound is None or solved < bound):
            bound = solved
    return bound


def turned(table, at, solved):
    """The equations solved for the weight at an index, instead of for another one."""
    pivot = table[solved]
    others = {other: cleared(row, at, pivot) for other, row in table.items() if other != solved}
    return {**others, at: pivot}


def weights_along(table, at, size):
    """The weights if the one at an index grows from 0, where no solved one falls, and all others stay 0."""
    scale = 1
    for solved, row in table.items():
        scale = lcm(scale, row[solved])
    weights = [0] * size
    weights[at] = scale
    for solved, row in table.items():
        weights[solved] = -row[at] * scale // row[solved]
    return lowest(weights)


def decided(weak, strict, many):
    """So many numbers that keep conditions, and None; or None, and weights that show that there are none.

    This is the simplex method for the greatest sum of the strict conditions' weights. No
    equation has a constant, so the sum is 0 or has no bound; to take the first index each
    time (Bland's rule) lets the search end. If the sum is 0, the factors of the numbers'
    weights in its last form are at most 0, and their opposites keep all conditions.
    """
    size = len(weak) + len(strict) + many
    table = equations([*weak, *strict], many)
    aim = [0] * len(weak) + [1] * len(strict) + [0] * many
    at = first_above(aim)
    while at is not None:
        solved = first_bound(table, at)
        if solved is None:
            return None, weights_along(table, at, size)
        table = turned(table, at, solved)
        aim = cleared(aim, at, table[at])
        at = first_above(aim)
    return lowest([-item for item in aim[size - many:]]), None

"""What follows from facts about the dimensions in a triple."""

from handspaces.conditions import decided
from handspaces.rests import is_integer
from handspaces.triples import KINDS, check_numbers, has_all_kinds


def row_of_claim(claim):
    """The sums of a claim on the nine kinds, a list."""
    return list(claim.on_kinds().values())


def by_kind(row):
    """The dict that has the items of a row for the nine kinds."""
    return {kind: item for kind, item in zip(KINDS, row)}


def without(items, at):
    """The items of a list but the one at an index."""
    return [*items[:at], *items[at + 1:]]


def is_weight(value):
    """Whether a value is an integer that is at least 0."""
    return is_integer(value) and value >= 0


def weighted(tables, weights, kind):
    """The sum of what dicts tell of a kind, each times its weight."""
    return sum([weight * table[kind] for table, weight in zip(tables, weights)])


class SizeFacts:
    """Claims whose sums are at least 0, or above 0, in a triple that is not known; they never change."""

    def __init__(self, *, weak=(), strict=()):
        self._weak = tuple(weak)
        self._strict = tuple(strict)

    @property
    def weak(self):
        """The claims whose sums are at least 0."""
        return self._weak

    @property
    def strict(self):
        """The claims whose sums are above 0."""
        return self._strict

    def keep(self, numbers):
        """Whether the facts are so in the triples with nine numbers."""
        check_numbers(numbers)
        least = [claim.total(numbers) for claim in self._weak]
        more = [claim.total(numbers) for claim in self._strict]
        return all([total >= 0 for total in least]) and all([total > 0 for total in more])

    def model(self):
        """Nine numbers with which the facts are so, or None."""
        numbers, _ = self._decided()
        return None if numbers is None else by_kind(numbers)

    def follows(self, claim, strict=False):
        """Whether a claim follows, or strictly follows, from the facts."""
        return self.counter(claim, strict) is None

    def counter(self, claim, strict=False):
        """Nine numbers with all facts and without a claim, or None if it follows."""
        return self._against(claim, strict).model()

    def weights(self, claim, strict=False):
        """Weights that show that a claim follows, or strictly follows; None if it does not."""
        told = self._against(claim, strict).clash_weights()
        if told is None:
            return None
        # With the opposite of the claim the facts clash; its weight is the scale of the claim.
        _, weak, more, rest = told
        if strict:
            return (weak[-1], weak[:-1], more, rest)
        return (more[-1], weak, more[:-1], rest)

    def is_weights(self, claim, strict, weights):
        """Whether a tuple is weights that show that a claim follows, or strictly follows."""
        scale, weak, more, rest = weights
        if len(weak) != len(self._weak) or len(more) != len(self._strict) or not has_all_kinds(rest):
            return False
        if not all([is_weight(weight) for weight in (scale, *weak, *more, *list(rest.values()))]):
            return False
        if not any([weight > 0 for weight in more]) and (strict or scale == 0):
            return False
        tables = [fact.on_kinds() for fact in self._weak + self._strict]
        return all([
            scale * total == weighted(tables, [*weak, *more], kind) + rest[kind]
            for kind, total in claim.on_kinds().items()
        ])

    def clash_weights(self):
        """Weights that show that no triple has the facts, or None."""
        _, weights = self._decided()
        if weights is None:
            return None
        at = len(self._weak)
        after = at + len(self._strict)
        return (0, weights[:at], weights[at:after], by_kind(weights[after:]))

    def needless(self):
        """The facts that follow from all the others, a strict one strictly."""
        weak = [
            ("weak", at) for at, claim in enumerate(self._weak)
            if SizeFacts(weak=without(self._weak, at), strict=self._strict).follows(claim)
        ]
        more = [
            ("strict", at) for at, claim in enumerate(self._strict)
            if SizeFacts(weak=self._weak, strict=without(self._strict, at)).follows(claim, True)
        ]
        return weak + more

    def _against(self, claim, strict):
        """These facts, and that a claim does not hold, or does not hold strictly."""
        if strict:
            return SizeFacts(weak=[*self._weak, -claim], strict=self._strict)
        return SizeFacts(weak=self._weak, strict=[*self._strict, -claim])

    def _decided(self):
        """Nine numbers with which the facts are so, and None; or None, and weights that show there are none."""
        weak = [row_of_claim(claim) for claim in self._weak]
        strict = [row_of_claim(claim) for claim in self._strict]
        return decided(weak, strict, len(KINDS))

"""What follows from facts about what lies within what in a triple."""

from handspaces.classes import within_on
from handspaces.errors import Clash
from handspaces.rests import is_integer
from handspaces.triples import KINDS, has_all_kinds

SURE = "sure"
BARRED = "barred"
OPEN = "open"


def first_breach(pairs, kind):
    """The index of the first pair of words whose first is not within its second on a kind, or None."""
    for at, (one, other) in enumerate(pairs):
        if not within_on(one, other, kind):
            return at
    return None


def is_breach(pairs, index, kind):
    """Whether a value is the index of a pair whose first is not within its second on a kind."""
    if not is_integer(index) or index < 0 or index >= len(pairs):
        return False
    one, other = pairs[index]
    return not within_on(one, other, kind)


def within_on_all(pair, kinds):
    """Whether the first word of a pair is within the second one on all of some kinds."""
    one, other = pair
    return all([within_on(one, other, kind) for kind in kinds])


def open_kinds(paper):
    """The kinds for which a paper has None."""
    return [kind for kind in KINDS if paper[kind] is None]


class Facts:
    """What lies within what, and what does not, in a triple that is not known; they never change."""

    def __init__(self, *, within=(), not_within=()):
        self._within = tuple(within)
        self._not_within = tuple(not_within)

    @property
    def within(self):
        """The pairs of words of which the first is contained in the second."""
        return list(self._within)

    @property
    def not_within(self):
        """The pairs of words of which the first is not contained in the second."""
        return list(self._not_within)

    def kinds(self):
        """The allowed kinds."""
        return open_kinds(self._paper())

    def clashes(self):
        """Whether no triple has all the facts."""
        return self.clash_reason() is not None

    def verdict(self, one, other):
        """Whether one word is surely, never, or in some triples with the facts within another one."""
        if self.model(one, other, False) is None:
            return SURE
        return BARRED if self.model(one, other, True) is None else OPEN

    def model(self, one, other, inside):
        """Nine numbers with all facts and one word within another one, or not; None if there are none."""
        self._check()
        more = self._supposed(one, other, inside)
        if more.clashes():
            return None
        # Every kind that may be there helps to break what is not within.
        allowed = more.kinds()
        return {kind: int(kind in allowed) for kind in KINDS}

    def reason(self, one, other):
        """What shows that the verdict is sure or barred, or None."""
        self._check()
        paper = self._paper()
        if within_on_all((one, other), open_kinds(paper)):
            return (SURE, paper)
        told = self._supposed(one, other, True).clash_reason()
        return None if told is None else (BARRED, told[0], paper)

    def clash_reason(self):
        """What shows that the facts clash, or None."""
        paper = self._paper()
        left = open_kinds(paper)
        for at, pair in enumerate(self._not_within):
            if within_on_all(pair, left):
                return (at, paper)
        return None

    def shows(self, one, other, reason):
        """Whether a reason is right for one word and another one."""
        if len(reason) == 2 and reason[0] == SURE:
            paper = reason[1]
            return self._is_paper(paper) and within_on_all((one, other), open_kinds(paper))
        if len(reason) != 3 or reason[0] != BARRED:
            return False
        _, index, paper = reason
        if not self._is_paper(paper):
            return False
        return self._is_never(index, [kind for kind in open_kinds(paper) if within_on(one, other, kind)])

    def shows_clash(self, reason):
        """Whether a reason shows that the facts clash."""
        index, paper = reason
        return self._is_paper(paper) and self._is_never(index, open_kinds(paper))

    def _supposed(self, one, other, inside):
        """These facts and one more."""
        if inside:
            return Facts(within=[*self._within, (one, other)], not_within=self._not_within)
        return Facts(within=self._within, not_within=[*self._not_within, (one, other)])

    def _check(self):
        """Raise an error if the facts clash."""
        if self.clashes():
            raise Clash()

    def _paper(self):
        """For each kind the index of a pair that does not allow it, or None."""
        return {kind: first_breach(self._within, kind) for kind in KINDS}

    def _is_paper(self, paper):
        """Whether a dict has for each kind None or the index of a pair that does not allow it."""
        if not has_all_kinds(paper):
            return False
        return all([
            index is None or is_breach(self._within, index, kind)
            for kind, index in paper.items()
        ])

    def _is_never(self, index, kinds):
        """Whether a value is the index of a pair that is never broken on some kinds."""
        if not is_integer(index) or index < 0 or index >= len(self._not_within):
            return False
        return within_on_all(self._not_within[index], kinds)

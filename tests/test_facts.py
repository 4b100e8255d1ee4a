import unittest
from collections import Counter
from random import Random

from drawn import KINDS, PRIMES, drawn_triple, made, mixed_triple
from onkinds import within_on
from trees import drawn_tree, tree_of

from handspaces.errors import Clash
from handspaces.facts import Facts
from handspaces.pieces import nine_numbers
from handspaces.spaces import Space
from handspaces.triples import triple_of, value
from handspaces.words import Word

def drawn_pairs(random, most, size=4):
    """Drawn tuples of two trees."""
    return [tuple(drawn_tree(random, random.randrange(1, size + 1), "abcabc01") for _ in range(2))
            for _ in range(random.randrange(most + 1))]


def words_of(pairs):
    return [(made(one), made(other)) for one, other in pairs]


def facts_of(within, not_within):
    return Facts(within=words_of(within), not_within=words_of(not_within))


def breaking(pair):
    """The kinds on which one tree is not within another one, as the bits of an integer."""
    return sum(1 << at for at, kind in enumerate(KINDS) if not within_on(*pair, kind))


def with_facts(within, not_within):
    """The sets of kinds of all triples that have the facts, gone through one by one, as such integers."""
    barred, needed = [breaking(pair) for pair in within], [breaking(pair) for pair in not_within]
    return [kinds for kinds in range(512) if not any(kinds & told for told in barred)
            and all(kinds & told for told in needed)]


def is_paper(paper, within):
    """Whether each index of a paper is right."""
    if set(paper) != set(KINDS):
        return False
    for kind, index in paper.items():
        if index is not None and not (0 <= index < len(within) and not within_on(*within[index], kind)):
            return False
    return True


def is_shown(within, not_within, pair, reason):
    """Whether a reason shows what it says of a pair of trees, by the words of the document."""
    if len(reason) == 2 and reason[0] == "sure":
        return is_paper(reason[1], within) and all(
            within_on(*pair, kind) for kind in KINDS if reason[1][kind] is None)
    if len(reason) == 3 and reason[0] == "barred":
        if not 0 <= reason[1] < len(not_within) or not is_paper(reason[2], within):
            return False
        return all(within_on(*not_within[reason[1]], kind) for kind in KINDS
                   if reason[2][kind] is None and within_on(*pair, kind))
    return False


def is_clash(within, not_within, reason):
    """Whether a tuple of an index and a paper shows that facts clash."""
    index, paper = reason
    return (0 <= index < len(not_within) and is_paper(paper, within)
            and all(within_on(*not_within[index], kind) for kind in KINDS if paper[kind] is None))


class Drawn(unittest.TestCase):
    """Facts, and everything that can be asked of them, against the sets of kinds gone through."""

    def drawn(self, seed, many, most=3):
        random = Random(seed)
        for _ in range(many):
            yield random, drawn_pairs(random, most), drawn_pairs(random, most)

    def test_kinds_and_clashes(self):
        found = Counter()
        for random, within, not_within in self.drawn(130, 400):
            facts = facts_of(within, not_within)
            allowed = [kind for kind in KINDS if all(within_on(*pair, kind) for pair in within)]
            self.assertEqual(facts.kinds(), allowed)
            clashes = not with_facts(within, not_within)
            self.assertIs(facts.clashes(), clashes)
            self.assertIs(clashes, any(all(within_on(*pair, kind) for kind in allowed) for pair in not_within))
            found[clashes] += 1
        self.assertGreater(min(found.values()), 40)

    def verdicts(self, seed, many):
        for random, within, not_within in self.drawn(seed, many):
            supports = with_facts(within, not_within)
            for one, other in drawn_pairs(random, 1) + drawn_pairs(random, 2, 2):
                holding = [kinds for kinds in supports if not kinds & breaking((one, other))]
                told = "open" if 0 < len(holding) < len(supports) else "sure" if holding else "barred"
                yield random, within, not_within, supports, (one, other), told

    def test_verdict_and_model(self):
        found = Counter()
        for _, within, not_within, supports, pair, expected in self.verdicts(131, 700):
            facts, words = facts_of(within, not_within), (made(pair[0]), made(pair[1]))
            if not supports:
                self.refused(facts, words)
                continue
            found[expected] += 1
            self.assertEqual(facts.verdict(*words), expected)
            for inside in (True, False):
                numbers = facts.model(*words, inside)
                if expected == ("barred" if inside else "sure"):
                    self.assertIsNone(numbers)
                else:
                    self.is_model(within, not_within, pair, inside, numbers)
        self.assertGreater(min(found[told] for told in ("sure", "barred", "open")), 30)

    def is_model(self, within, not_within, pair, inside, numbers):
        self.assertIs(type(numbers), dict)
        self.assertEqual(list(numbers), list(KINDS))
        self.assertTrue(all(type(many) is int and many in (0, 1) for many in numbers.values()))
        kinds = sum(1 << at for at, kind in enumerate(KINDS) if numbers[kind])
        self.assertIn(kinds, with_facts(within, not_within))
        self.assertIs(not kinds & breaking(pair), inside)
        triple = triple_of(3, numbers)
        for one, other in words_of(within):
            self.assertLessEqual(value(one, triple), value(other, triple))
        for one, other in words_of(not_within):
            self.assertFalse(value(one, triple) <= value(other, triple))
        self.assertIs(value(made(pair[0]), triple) <= value(made(pair[1]), triple), inside)

    def refused(self, facts, words):
        with self.assertRaises(Clash):
            facts.verdict(*words)
        with self.assertRaises(Clash):
            facts.reason(*words)
        for inside in (True, False):
            with self.assertRaises(Clash):
                facts.model(*words, inside)

    def test_reason(self):
        found = Counter()
        for _, within, not_within, supports, pair, expected in self.verdicts(132, 700):
            if not supports:
                continue
            facts, words = facts_of(within, not_within), (made(pair[0]), made(pair[1]))
            reason = facts.reason(*words)
            found[expected] += 1
            if expected == "open":
                self.assertIsNone(reason)
                continue
            self.assertIs(type(reason), tuple)
            self.assertEqual((reason[0], len(reason)), (expected, 2 if expected == "sure" else 3))
            self.assertIs(type(reason[-1]), dict)
            self.assertEqual(list(reason[-1]), list(KINDS))
            self.assertTrue(is_shown(within, not_within, pair, reason))
            self.assertIs(facts.shows(*words, reason), True)
        self.assertGreater(min(found[told] for told in ("sure", "barred", "open")), 25)

    def spoilt(self, random, reason, within, not_within):
        """Reasons that differ from one in a single place."""
        *head, paper = reason
        kind = random.choice(KINDS)
        for index in (None, -1, len(within), 7, *range(len(within))):
            yield (*head, {**paper, kind: index})
        yield (*head, {told: index for told, index in paper.items() if told != kind})
        yield (*head, {})
        yield (*head, dict.fromkeys(KINDS))
        yield (*head, {told: paper[told] for told in reversed(KINDS)})
        if isinstance(head[-1], int):
            for index in (-1, len(not_within), 6, *range(len(not_within))):
                yield (*head[:-1], index, paper)

    def test_spoilt_reasons(self):
        found = Counter()
        for random, within, not_within, supports, pair, expected in self.verdicts(133, 350):
            facts, words = facts_of(within, not_within), (made(pair[0]), made(pair[1]))
            paper = {kind: next((at for at, told in enumerate(within) if not within_on(*told, kind)), None)
                     for kind in KINDS}
            reasons = [("sure", paper)] + [("barred", index, paper) for index in range(-1, len(not_within) + 1)]
            for reason in reasons:
                for told in [reason, *self.spoilt(random, reason, within, not_within)]:
                    kept = told[:-1], list(told[-1].items())
                    shown = is_shown(within, not_within, pair, told)
                    self.assertIs(facts.shows(*words, told), shown, (within, not_within, pair, told))
                    self.assertEqual((told[:-1], list(told[-1].items())), kept)
                    found[told[0], shown, bool(supports)] += 1
                    if shown and supports:
                        self.assertEqual(expected, told[0])
        self.assertGreater(min(found[form, shown, some] for form in ("sure", "barred")
                               for shown in (True, False) for some in (True, False)), 50)

    def test_clash_reason(self):
        found = Counter()
        for random, within, not_within in self.drawn(134, 350):
            facts = facts_of(within, not_within)
            reason = facts.clash_reason()
            self.assertIs(reason is None, bool(with_facts(within, not_within)))
            if reason is not None:
                self.assertIs(type(reason), tuple)
                self.assertEqual(list(reason[1]), list(KINDS))
                self.assertTrue(is_clash(within, not_within, reason))
                self.assertIs(facts.shows_clash(reason), True)
            paper = {kind: next((at for at, told in enumerate(within) if not within_on(*told, kind)), None)
                     for kind in KINDS}
            for index in range(-1, len(not_within) + 1):
                for told in [(index, paper), *self.spoilt(random, (index, paper), within, not_within)]:
                    shown = is_clash(within, not_within, told)
                    self.assertIs(facts.shows_clash(told), shown)
                    found[shown] += 1
                    if shown:
                        self.assertTrue(facts.clashes())
        self.assertGreater(min(found.values()), 300)

    def test_six_facts_and_long_words(self):
        random = Random(135)
        for at in range(80):
            within = [tuple(drawn_tree(random, 24, "abc01") for _ in range(2)) for _ in range(at % 7)]
            not_within = [tuple(drawn_tree(random, 24, "abc01") for _ in range(2)) for _ in range(6 - at % 7)]
            facts = facts_of(within, not_within)
            self.assertIs(facts.clashes(), not with_facts(within, not_within))

    def test_what_a_verdict_says_holds_in_drawn_triples(self):
        random = Random(136)
        triples = [drawn_triple(random, PRIMES[at % 6], at % 7) for at in range(48)]
        triples += [mixed_triple(random, 3, {kind: random.randrange(2) for kind in KINDS}) for _ in range(12)]
        found = Counter()
        for _, within, not_within, supports, pair, expected in self.verdicts(137, 80):
            one, other = made(pair[0]), made(pair[1])
            for triple in triples:
                if not self.has(triple, words_of(within), words_of(not_within)):
                    continue
                self.assertTrue(supports)
                inside = value(one, triple) <= value(other, triple)
                self.assertIn((expected, inside), (("sure", True), ("barred", False), ("open", True), ("open", False)))
                found[expected] += 1
                kinds = facts_of(within, not_within).kinds()
                self.assertTrue(all(many == 0 for kind, many in nine_numbers(triple).items() if kind not in kinds))
        self.assertGreater(min(found[told] for told in ("sure", "barred", "open")), 5)

    def has(self, triple, within, not_within):
        return (all(value(one, triple) <= value(other, triple) for one, other in within)
                and not any(value(one, triple) <= value(other, triple) for one, other in not_within))


class Told(unittest.TestCase):
    a, b, c = Word("a"), Word("b"), Word("c")

    def test_properties(self):
        a, b, c = self.a, self.b, self.c
        within, not_within = [(a, b), (b, c)], [(c, a)]
        facts = Facts(within=within, not_within=not_within)
        within[0] = (c, c)
        within.append((a, a))
        not_within.clear()
        for _ in range(2):
            for told, expected in ((facts.within, [(a, b), (b, c)]), (facts.not_within, [(c, a)])):
                self.assertIs(type(told), list)
                self.assertTrue(all(type(pair) is tuple for pair in told))
                self.assertEqual(told, expected)
                told.clear()
        self.assertEqual((facts.kinds(), facts.verdict(a, c)), (["", "c", "bc", "abc"], "sure"))
        told = Facts(within=((a, b),), not_within=((b, a),))
        self.assertEqual((told.within, told.not_within), ([(a, b)], [(b, a)]))

    def test_by_name_only(self):
        with self.assertRaises(TypeError):
            Facts([(self.a, self.b)])
        with self.assertRaises(TypeError):
            Facts([], [])
        self.assertEqual(Facts(within=[(self.a, self.b)]).not_within, [])
        self.assertEqual(Facts(not_within=[(self.a, self.b)]).within, [])

    def test_properties_cannot_be_assigned(self):
        facts = Facts()
        for name in ("within", "not_within"):
            with self.assertRaises(AttributeError):
                setattr(facts, name, [])

    def test_no_facts_at_all(self):
        facts = Facts()
        self.assertEqual((facts.within, facts.not_within, facts.kinds()), ([], [], list(KINDS)))
        self.assertIs(facts.clashes(), False)
        self.assertIsNone(facts.clash_reason())
        a, b = self.a, self.b
        self.assertEqual((facts.verdict(a & b, a), facts.verdict(a, b)), ("sure", "open"))
        self.assertEqual(facts.reason(a & b, a), ("sure", dict.fromkeys(KINDS)))
        self.assertIsNone(facts.model(one=a & b, other=a, inside=False))
        self.assertEqual(facts.model(one=a, other=b, inside=True),
                         {kind: int("a" not in kind or "b" in kind) for kind in KINDS[:8]} | {"plane": 0})
        self.assertFalse(facts.shows_clash((0, dict.fromkeys(KINDS))))

    def test_new_answers(self):
        a, b, c = self.a, self.b, self.c
        facts = Facts(within=[(a, b)], not_within=[(b, c)])
        for ask in (facts.kinds, lambda: facts.model(b, a, True), lambda: facts.reason(a & c, b)[1],
                    lambda: facts.reason(b, c)[2]):
            told = ask()
            kept = list(told.items()) if isinstance(told, dict) else list(told)
            told.clear()
            again = ask()
            self.assertEqual(list(again.items()) if isinstance(again, dict) else list(again), kept)
        clashing = Facts(within=[(a, b)], not_within=[(a, b)])
        told = clashing.clash_reason()[1]
        told.clear()
        self.assertEqual(len(clashing.clash_reason()[1]), 9)

    def test_arguments_stay(self):
        a, b, c = self.a, self.b, self.c
        facts = Facts(within=[(a, b)], not_within=[(b, c)])
        before = [(tree_of(one), tree_of(other)) for one, other in facts.within + facts.not_within]
        facts.verdict(a & c, b), facts.model(b, a, False), facts.reason(b, c)
        after = [(tree_of(one), tree_of(other)) for one, other in facts.within + facts.not_within]
        self.assertEqual(after, before)

    def test_impossible_facts(self):
        zero, one, a = Word("0"), Word("1"), self.a
        facts = Facts(within=[(one, zero)])
        # Only the triple of the length 0 has it, so all that is within holds, and nothing is not within.
        self.assertEqual((facts.kinds(), facts.clashes(), facts.verdict(one, a)), ([], False, "sure"))
        self.assertEqual(facts.model(one, zero, True), dict.fromkeys(KINDS, 0))
        self.assertIsNone(facts.model(one, zero, False))
        self.assertTrue(Facts(within=[(one, zero)], not_within=[(one, zero)]).clashes())
        self.assertTrue(Facts(not_within=[(zero, a)]).clashes())
        self.assertEqual(Space.nothing(2, 0), value(one, triple_of(2, {})))

    def test_unlike_forms(self):
        a, b = self.a, self.b
        facts, paper = Facts(within=[(a, b)], not_within=[(b, a)]), Facts(within=[(a, b)]).reason(a, b)[1]
        self.assertTrue(facts.shows(a, b, ("sure", paper)))
        self.assertFalse(facts.shows(b, a, ("sure", paper)))
        self.assertTrue(facts.shows(b, a, ("barred", 0, paper)))
        self.assertFalse(facts.shows(a, b, ("barred", 0, paper)))
        self.assertFalse(facts.shows(one=b, other=a, reason=("barred", 1, paper)))
        for reason in (("barred", paper), ("sure", 0, paper), ("open", paper), ("open", 0, paper),
                       ("barred", None, paper),
                       (paper,), ()):
            for pair in ((a, b), (b, a)):
                self.assertIs(facts.shows(*pair, reason), False)
        self.assertFalse(facts.shows_clash(reason=(0, paper)))


if __name__ == "__main__":
    unittest.main()

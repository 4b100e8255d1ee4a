import unittest
from collections import Counter
from random import Random

from drawn import KINDS, PRIMES, drawn_numbers, drawn_terms, drawn_triple, made_terms
from onkinds import sums
from values import is_like

from handspaces.bounds import SizeFacts
from handspaces.errors import BadNumbers
from handspaces.sizes import Claim, number_claim
from handspaces.triples import triple_of
from handspaces.words import Word

A, B, C = Word("a"), Word("b"), Word("c")


def claim_of(terms):
    return Claim(made_terms(terms))


class Model:
    """Facts as lists of terms; everything about them is told by the sums of their trees on the kinds."""

    def __init__(self, weak, strict):
        self.weak, self.strict = [sums(terms) for terms in weak], [sums(terms) for terms in strict]
        self.facts = SizeFacts(weak=[claim_of(terms) for terms in weak], strict=[claim_of(terms) for terms in strict])

    def keep(self, numbers):
        return (all(self.total(table, numbers) >= 0 for table in self.weak)
                and all(self.total(table, numbers) > 0 for table in self.strict))

    def total(self, table, numbers):
        return sum(table[kind] * numbers.get(kind, 0) for kind in KINDS)

    def right(self, table, strict, weights):
        """Whether weights show that a claim with such sums follows, by the words of the document."""
        scale, weak, more, rest = weights
        if (len(weak), len(more), set(rest)) != (len(self.weak), len(self.strict), set(KINDS)):
            return False
        if any(type(weight) is not int or weight < 0 for weight in (scale, *weak, *more, *rest.values())):
            return False
        for kind in KINDS:
            parts = [weight * told[kind] for weight, told in zip([*weak, *more], self.weak + self.strict)]
            if scale * table[kind] != sum(parts) + rest[kind]:
                return False
        return sum(more) > 0 or (scale > 0 and not strict)


def drawn_facts(random, most=3, great=None):
    """Drawn lists of terms, with small and with great integers."""
    great = great or 10 ** random.randrange(1, 7) - 1
    return [[drawn_terms(random, 8, 4, great) for _ in range(random.randrange(most + 1))] for _ in range(2)]


def combined(random, model, weak, strict, great=9):
    """Terms of a sum of facts and numbers of kinds, each taken so many times or never."""
    terms = []
    for fact in weak + strict:
        factor = random.choice((0, 1, random.randrange(great)))
        terms += [(factor * number, tree) for number, tree in fact]
    return terms, [random.choice((0, 0, random.randrange(great))) for _ in KINDS]


def with_rest(claim, rest):
    for kind, factor in zip(KINDS, rest):
        claim = claim + number_claim(kind) * factor
    return claim


class Properties(unittest.TestCase):
    def test_tuples(self):
        weak, strict = [Claim([(1, A)]), Claim([(1, A), (-1, B)])], [Claim([(2, C)])]
        facts = SizeFacts(weak=weak, strict=strict)
        for told, expected in ((facts.weak, weak), (facts.strict, strict)):
            self.assertIs(type(told), tuple)
            self.assertEqual([claim.terms for claim in told], [claim.terms for claim in expected])
        weak.clear()
        strict[0] = Claim([(-1, Word("1"))])
        strict.append(Claim([]))
        self.assertEqual([claim.text() for claim in facts.weak + facts.strict], ["1 |a|", "1 |a|, -1 |b|", "2 |c|"])
        self.assertTrue(facts.keep({"c": 1}))
        self.assertFalse(facts.keep({"b": 1, "c": 1}))

    def test_by_name_only(self):
        for arguments in ([[]], [[], []], [[Claim([(1, A)])]]):
            with self.assertRaises(TypeError):
                SizeFacts(*arguments)
        self.assertEqual((SizeFacts().weak, SizeFacts().strict), ((), ()))
        self.assertEqual(SizeFacts(strict=(Claim([]),)).weak, ())
        self.assertEqual(len(SizeFacts(weak=(Claim([]),)).weak), 1)

    def test_they_never_change(self):
        facts = SizeFacts(weak=[Claim([(1, A)])], strict=[Claim([(1, B)])])
        for name in ("weak", "strict"):
            with self.assertRaises(AttributeError):
                setattr(facts, name, ())
        claim = Claim([(1, C)])
        facts.model(), facts.follows(claim), facts.counter(claim, True), facts.weights(claim), facts.needless()
        self.assertEqual([told.text() for told in (*facts.weak, *facts.strict, claim)], ["1 |a|", "1 |b|", "1 |c|"])


class Keep(unittest.TestCase):
    def test_against_the_sums_on_the_kinds(self):
        random = Random(200)
        found = Counter()
        for _ in range(400):
            model = Model(*drawn_facts(random, 2, 3))
            numbers = {kind: random.randrange(21) for kind in random.sample(KINDS, random.randrange(10))}
            kept = list(numbers.items())
            told = model.facts.keep(numbers=numbers)
            self.assertIs(told, model.keep(numbers))
            self.assertEqual(list(numbers.items()), kept)
            found[told] += 1
        self.assertGreater(min(found.values()), 60)

    def test_bad_numbers(self):
        for facts in (SizeFacts(), SizeFacts(weak=[Claim([(1, A)])]), SizeFacts(strict=[Claim([(-1, A)])])):
            for key in [None, True, 0, (), ("a",), "d", "ba", "Plane"]:
                for numbers in ({key: 0}, {"a": 1, key: 2}):
                    with self.assertRaises(BadNumbers):
                        facts.keep(numbers)
            for many in (-1, True, False, None, "1", [1], (), {}):
                numbers = {"b": 3, "plane": many}
                with self.assertRaises(BadNumbers):
                    facts.keep(numbers)
                self.assertTrue(is_like(numbers, {"b": 3, "plane": many}))
            self.assertIn(facts.keep({}), (True, False))


class Decided(unittest.TestCase):
    def is_nine(self, numbers):
        self.assertIs(type(numbers), dict)
        self.assertEqual(list(numbers), list(KINDS))
        self.assertTrue(all(type(many) is int and many >= 0 for many in numbers.values()))

    def test_model_or_clash_weights(self):
        random = Random(201)
        found = Counter()
        for _ in range(700):
            model = Model(*drawn_facts(random))
            numbers, weights = model.facts.model(), model.facts.clash_weights()
            self.assertIs(numbers is None, weights is not None)
            found[numbers is None] += 1
            if numbers is not None:
                self.is_nine(numbers)
                self.assertTrue(model.keep(numbers))
                self.assertIs(model.facts.keep(numbers), True)
                continue
            self.are_weights(weights)
            self.assertEqual(weights[0], 0)
            self.assertGreater(sum(weights[2]), 0)
            self.assertTrue(model.right(sums([]), True, weights))
            for strict in (True, False):
                self.assertIs(model.facts.is_weights(Claim([]), strict, weights), True)
        self.assertGreater(min(found.values()), 100)

    def are_weights(self, weights):
        self.assertIs(type(weights), tuple)
        scale, weak, strict, rest = weights
        self.assertEqual([type(told) for told in weights], [int, list, list, dict])
        self.assertEqual(list(rest), list(KINDS))
        self.assertTrue(all(type(weight) is int for weight in (*weak, *strict, *rest.values())))

    def check(self, model, claim, table):
        """Exactly one of weights and a counter is told, and each is right."""
        answers = []
        for strict in (False, True):
            facts = model.facts
            follows, weights = facts.follows(claim, strict), facts.weights(claim, strict)
            numbers = facts.counter(claim=claim, strict=strict)
            self.assertIs(follows, numbers is None)
            self.assertIs(follows, weights is not None)
            if follows:
                self.are_weights(weights)
                self.assertTrue(model.right(table, strict, weights))
                self.assertIs(facts.is_weights(claim, strict, weights), True)
            else:
                self.is_nine(numbers)
                self.assertTrue(model.keep(numbers))
                total = model.total(table, numbers)
                self.assertTrue(total <= 0 if strict else total < 0)
                self.assertEqual(claim.total(numbers), total)
            answers.append(follows)
        self.assertIs(model.facts.follows(claim), answers[0])
        self.assertEqual(model.facts.weights(claim), model.facts.weights(claim=claim, strict=False))
        self.assertEqual(model.facts.counter(claim), model.facts.counter(claim, False))
        return tuple(answers)

    def test_drawn_claims(self):
        random = Random(202)
        found = Counter()
        for _ in range(350):
            model, terms = Model(*drawn_facts(random)), drawn_terms(random, 8, 5, 10 ** random.randrange(7) - 1)
            found[self.check(model, claim_of(terms), sums(terms))] += 1
        self.assertGreater(min(found[told] for told in ((True, True), (True, False), (False, False))), 20)
        self.assertEqual(found[False, True], 0)

    def test_sums_of_the_facts(self):
        random = Random(203)
        found = Counter()
        for _ in range(200):
            weak, strict = drawn_facts(random)
            model = Model(weak, strict)
            terms, rest = combined(random, model, weak, strict)
            table = sums(terms)
            claim = with_rest(claim_of(terms), rest)
            more = {kind: table[kind] + factor for kind, factor in zip(KINDS, rest)}
            self.assertIs(self.check(model, claim, more)[0], True)
            # A little less need not follow.
            kind = random.choice(KINDS)
            less = {**more, kind: more[kind] - 1}
            found[self.check(model, claim - number_claim(kind), less)[0]] += 1
        self.assertGreater(min(found.values()), 20)

    def test_exactly_what_follows_from_one_fact(self):
        # 1 |a|, -1 |b| follows with any multiple, and with any number of kinds more, but with none less.
        facts = SizeFacts(weak=[Claim([(1, A), (-1, B)])])
        for factor in (0, 1, 2, 7, 10 ** 6):
            claim = Claim([(factor, A), (-factor, B)])
            self.assertTrue(facts.follows(claim))
            for kind in KINDS:
                self.assertTrue(facts.follows(claim + number_claim(kind)))
                self.assertFalse(facts.follows(claim + number_claim(kind), True))
                # With lines of b alone, the one sum is 0 and there can be any kind.
                self.assertFalse(facts.follows(claim - number_claim(kind)))
            self.assertFalse(facts.follows(claim, strict=True))
        self.assertFalse(facts.follows(Claim([(-1, A), (1, B)])))

    def test_no_facts_at_all(self):
        model = Model([], [])
        self.assertEqual(model.facts.model().keys(), dict.fromkeys(KINDS).keys())
        self.assertIsNone(model.facts.clash_weights())
        self.assertEqual(model.facts.needless(), [])
        random = Random(204)
        for _ in range(100):
            terms = drawn_terms(random, 4, 3, 2)
            table = sums(terms)
            # Only a number of kinds could make the sum fall below 0, and no kinds at all keep it at 0.
            expected = (min(table.values()) >= 0, False)
            self.assertEqual(self.check(model, claim_of(terms), table), expected)

    def test_facts_that_clash(self):
        for weak, strict in (
            ([], ["-1 |a|"]), ([], [""]), (["-1 |1|"], ["1 |a|"]), ([], ["1 |a|, -1 |b|", "1 |b|, -1 |a|"]),
            (["1 |a|, -1 |b|", "1 |b|, -1 |c|"], ["1 |c|, -1 |a|"]), (["-1 |a + b + c|"], ["1 |a & b|", "1 |c|"]),
            ([], ["1 |a & b|, -1 |a|", "1 |b|"]),
        ):
            facts = SizeFacts(weak=[Claim.read(text) for text in weak], strict=[Claim.read(text) for text in strict])
            self.assertIsNone(facts.model())
            for text in ("1 |a|", "-1 |a|", "-1000000 |1|", "", "1 |a & b|, -5 |b + c|"):
                for wanted in (True, False):
                    claim = Claim.read(text)
                    self.assertTrue(facts.follows(claim, wanted))
                    self.assertIsNone(facts.counter(claim, wanted))
                    self.assertTrue(facts.is_weights(claim, wanted, facts.weights(claim, wanted)))
            self.assertEqual(facts.clash_weights()[0], 0)
            self.assertEqual(len(facts.needless()) <= len(weak) + len(strict), True)

    def test_great_integers(self):
        random = Random(205)
        for _ in range(30):
            weak, strict = [[drawn_terms(random, 8, 24, 999999) for _ in range(3)] for _ in range(2)]
            model, terms = Model(weak, strict), drawn_terms(random, 8, 24, 999999)
            self.check(model, claim_of(terms), sums(terms))

    def test_claims_that_were_returned(self):
        # Sums and multiples have more terms and greater integers than callers write.
        random = Random(206)
        for _ in range(30):
            weak, strict = drawn_facts(random, 3, 999999)
            great = [claim_of(terms) * random.randrange(10 ** 30) + number_claim("plane") for terms in weak]
            facts = SizeFacts(weak=great, strict=[claim_of(terms) * 10 ** 40 for terms in strict])
            for claim in [*great, great[0] + great[-1] if great else Claim([])]:
                self.assertTrue(facts.follows(claim))
                self.assertTrue(facts.is_weights(claim, False, facts.weights(claim)))

    def test_what_follows_holds_in_drawn_triples(self):
        random = Random(207)
        triples = [drawn_triple(random, PRIMES[at % 6], at % 7) for at in range(60)]
        triples += [triple_of(2, drawn_numbers(random, at % 9)) for at in range(40)]
        found = Counter()
        for _ in range(60):
            facts = Model(*drawn_facts(random, 1, 2)).facts
            claim = claim_of(drawn_terms(random, 3, 3, 2))
            weakly, strictly = facts.follows(claim), facts.follows(claim, True)
            for triple in triples:
                if (all(told.on(triple) >= 0 for told in facts.weak)
                        and all(told.on(triple) > 0 for told in facts.strict)):
                    self.assertTrue(claim.on(triple) >= 0 or not weakly)
                    self.assertTrue(claim.on(triple) > 0 or not strictly)
                    found[weakly, strictly] += 1
                    self.assertIsNotNone(facts.model())
        self.assertGreater(min(found[told] for told in ((True, True), (True, False), (False, False))), 10)


class IsWeights(unittest.TestCase):
    def spoilt(self, random, weights):
        """Weights that differ from some in a single place."""
        scale, weak, strict, rest = weights
        kind = random.choice(KINDS)
        for more in (1, -1, -scale, 2):
            yield scale + more, weak, strict, rest
        for number in (rest[kind] + 1, rest[kind] - 1, -1, 0, True, False, None):
            yield scale, weak, strict, {**rest, kind: number}
        yield scale, weak, strict, {told: rest[told] for told in KINDS if told != kind}
        yield scale, weak, strict, {told: rest[told] for told in reversed(KINDS)}
        yield scale, weak, strict, {}
        yield True, weak, strict, rest
        for changed in self.lists(random, weak):
            yield scale, changed, strict, rest
        for changed in self.lists(random, strict):
            yield scale, weak, changed, rest
        yield scale, strict, weak, rest
        yield 0, [0] * len(weak), [0] * len(strict), dict.fromkeys(KINDS, 0)
        yield 2 * scale, [2 * x for x in weak], [2 * x for x in strict], {told: 2 * rest[told] for told in KINDS}
        yield tuple([scale, tuple(weak), tuple(strict), rest])

    def lists(self, random, weights):
        yield [*weights, 0]
        yield [*weights, 1]
        if weights:
            yield weights[:-1]
            at = random.randrange(len(weights))
            for number in (weights[at] + 1, weights[at] - 1, -1, 0, True, False, None):
                yield [*weights[:at], number, *weights[at + 1:]]

    def test_spoilt_weights(self):
        random = Random(208)
        found = Counter()
        for _ in range(150):
            weak, strict = drawn_facts(random, 3, 5)
            model = Model(weak, strict)
            terms, rest = combined(random, model, weak, strict, 4)
            table = {kind: number + factor for (kind, number), factor in zip(sums(terms).items(), rest)}
            claim = with_rest(claim_of(terms), rest)
            for wanted in (False, True):
                weights = model.facts.weights(claim, wanted)
                for told in self.spoilt(random, weights) if weights is not None else []:
                    right = model.right(table, wanted, told)
                    kept = told[0], list(told[1]), list(told[2]), list(told[3].items())
                    self.assertIs(model.facts.is_weights(claim, wanted, told), right, told)
                    self.assertTrue(is_like((told[0], list(told[1]), list(told[2]), list(told[3].items())), kept))
                    found[wanted, right] += 1
        self.assertGreater(min(found.values()), 200)

    def test_what_a_scale_of_0_shows(self):
        a, b = Claim([(1, A), (-1, B)]), Claim([(1, B), (-1, A)])
        clashing = SizeFacts(weak=[a], strict=[b])
        rest = dict.fromkeys(KINDS, 0)
        for wanted in (True, False):
            self.assertTrue(clashing.is_weights(claim=Claim([(-7, A)]), strict=wanted, weights=(0, [1], [1], rest)))
            self.assertTrue(clashing.is_weights(b, wanted, (1, [0], [1], rest)))
            self.assertFalse(clashing.is_weights(b, wanted, (0, [0], [0], rest)))
        facts = SizeFacts(weak=[a])
        self.assertTrue(facts.is_weights(a, False, (1, [1], [], rest)))
        self.assertFalse(facts.is_weights(a, True, (1, [1], [], rest)))
        self.assertFalse(facts.is_weights(a, False, (0, [0], [], rest)))
        self.assertTrue(facts.is_weights(Claim([]), False, (5, [0], [], rest)))
        self.assertTrue(facts.is_weights(Claim([(1, Word("abc"[0]))]), False, (
            1, [0], [], {kind: int("a" in kind.replace("plane", "a")) for kind in KINDS})))

    def test_new_answers(self):
        a = Claim([(1, A), (-1, B)])
        facts, clashing = SizeFacts(weak=[a], strict=[a]), SizeFacts(weak=[a], strict=[-a])
        for ask in (lambda: facts.weights(a), clashing.clash_weights):
            told = ask()
            kept = told[0], list(told[1]), list(told[2]), dict(told[3])
            for part in told[1:]:
                part.clear()
            self.assertEqual(ask(), kept)
        for ask in (facts.model, facts.needless, lambda: facts.counter(-a)):
            told = ask()
            kept = told.copy()
            told.clear()
            self.assertEqual(ask(), kept)


class Needless(unittest.TestCase):
    def check(self, weak, strict):
        model = Model(weak, strict)
        expected = []
        for at, terms in enumerate(weak):
            others = Model(weak[:at] + weak[at + 1:], strict)
            if others.facts.counter(claim_of(terms)) is None:
                self.assertTrue(others.right(sums(terms), False, others.facts.weights(claim_of(terms))))
                expected.append(("weak", at))
        for at, terms in enumerate(strict):
            others = Model(weak, strict[:at] + strict[at + 1:])
            if others.facts.counter(claim_of(terms), True) is None:
                self.assertTrue(others.right(sums(terms), True, others.facts.weights(claim_of(terms), True)))
                expected.append(("strict", at))
        told = model.facts.needless()
        self.assertIs(type(told), list)
        self.assertTrue(is_like(told, expected), (told, expected))
        return told

    def test_drawn_facts(self):
        random = Random(209)
        found = Counter()
        for _ in range(150):
            weak, strict = drawn_facts(random, 3, 3)
            for name, _ in self.check(weak, strict):
                found[name] += 1
        self.assertGreater(min(found["weak"], found["strict"]), 20)

    def test_sums_of_others_and_a_fact_twice(self):
        random = Random(210)
        for _ in range(40):
            weak, strict = drawn_facts(random, 2, 3)
            terms, _ = combined(random, None, weak, strict, 4)
            self.assertIn(("weak", len(weak)), self.check(weak + [terms], strict))
            for fact in weak[:1]:
                told = self.check([*weak, fact], strict)
                self.assertTrue({("weak", 0), ("weak", len(weak))} <= set(told))
            for fact in strict[:1]:
                told = self.check(weak, [*strict, fact])
                self.assertTrue({("strict", 0), ("strict", len(strict))} <= set(told))
                self.assertIn(("weak", len(weak)), self.check([*weak, fact], strict))

    def test_told_ones(self):
        read = Claim.read
        more, less = read("1 |a|, -1 |b|"), read("1 |a|")
        self.assertEqual(SizeFacts(weak=[more, more], strict=[less]).needless(), [("weak", 0), ("weak", 1)])
        self.assertEqual(SizeFacts(weak=[less], strict=[less]).needless(), [("weak", 0)])
        self.assertEqual(SizeFacts(strict=[less, less]).needless(), [("strict", 0), ("strict", 1)])
        self.assertEqual(SizeFacts(weak=[read("1 |b|, -1 |c|"), more, read("1 |a|, -1 |c|")]).needless(), [("weak", 2)])
        # A weak fact does not make a strict one needless, but a strict one makes both.
        facts = SizeFacts(weak=[more], strict=[read("1 |b|, -1 |c|"), read("1 |a|, -1 |c|")])
        self.assertEqual(facts.needless(), [("strict", 1)])
        self.assertEqual(SizeFacts(weak=[Claim([])]).needless(), [("weak", 0)])
        self.assertEqual(SizeFacts(strict=[Claim([])]).needless(), [])


if __name__ == "__main__":
    unittest.main()

import unittest
from copy import deepcopy
from random import Random

from brute import all_spans, plus
from handspaces.errors import BadMatrix, NotWithin, UnlikeSpaces
from handspaces.spaces import Space, extension, image

PRIMES = (2, 3, 5, 7, 11, 13)
UNLIKE = [
    (Space(2, 2), Space(3, 2)), (Space(2, 2), Space(2, 3)), (Space.whole(5, 1), Space.whole(7, 1)),
    (Space(2, 0), Space(3, 0)), (Space(2, 0), Space(2, 12)), (Space.whole(2, 3), Space.whole(3, 2)),
]


def every_pair(prime, length):
    spans = all_spans(prime, length)
    pairs = [(vectors, Space(prime, length, sorted(vectors))) for vectors in spans]
    return [(*one, *other) for one in pairs for other in pairs]


class SumsAndIntersections(unittest.TestCase):
    def test_against_all_vectors(self):
        for prime, length in ((2, 3), (3, 2), (5, 2), (13, 1), (2, 0)):
            for mine, one, yours, other in every_pair(prime, length):
                before = (one.text(), other.text())
                both = {plus(prime, x, y) for x in mine for y in yours}
                self.assertEqual(set((one + other).vectors()), both)
                self.assertEqual(set((one & other).vectors()), mine & yours)
                self.assertEqual((one.text(), other.text()), before)

    def test_against_all_vectors_of_longer_spaces(self):
        for prime, length in ((2, 4), (3, 3)):
            pairs = every_pair(prime, length)
            for mine, one, yours, other in Random(4).sample(pairs, 600):
                both = {plus(prime, x, y) for x in mine for y in yours}
                self.assertEqual(set((one + other).vectors()), both)
                self.assertEqual(set((one & other).vectors()), mine & yours)

    def test_great_spaces(self):
        random = Random(5)
        for prime in PRIMES:
            for many in (0, 3, 7, 11, 12):
                rows = [[random.randrange(prime) for _ in range(12)] for _ in range(many + 7)]
                one, other = Space(prime, 12, rows[:many]), Space(prime, 12, rows[many // 2:])
                total, both = one + other, one & other
                self.assertEqual(total, other + one)
                self.assertEqual(both, other & one)
                self.assertEqual(total, Space(prime, 12, rows))
                self.assertEqual(len(total) + len(both), len(one) + len(other))
                self.assertTrue(both <= one and both <= other and one <= total and other <= total)

    def test_with_nothing_the_whole_and_itself(self):
        for prime in PRIMES:
            for length in (0, 1, 3, 12):
                nothing, whole = Space.nothing(prime, length), Space.whole(prime, length)
                rows = [[(i * j + j) % prime for j in range(length)] for i in range(4)]
                for space in (nothing, whole, Space(prime, length, rows)):
                    for same in (space + nothing, nothing + space, space & whole, whole & space):
                        self.assertEqual(same, space)
                    self.assertEqual(space + space, space)
                    self.assertEqual(space & space, space)
                    self.assertEqual((space + whole, whole + space), (whole, whole))
                    self.assertEqual((space & nothing, nothing & space), (nothing, nothing))

    def test_unlike_spaces(self):
        for one, other in UNLIKE:
            for first, second in ((one, other), (other, one)):
                texts = (first.text(), second.text())
                with self.assertRaises(UnlikeSpaces):
                    first + second
                with self.assertRaises(UnlikeSpaces):
                    first & second
                with self.assertRaises(UnlikeSpaces):
                    first <= second
                with self.assertRaises(UnlikeSpaces):
                    extension(first, second)
                self.assertIs(first == second, False)
                self.assertEqual((first.text(), second.text()), texts)


class Extensions(unittest.TestCase):
    def check(self, inner, outer):
        told = extension(inner, outer)
        self.assertIs(type(told), list)
        for vector in told:
            self.assertIs(type(vector), tuple)
            self.assertTrue(all(item in range(inner.prime) for item in vector))
        self.assertEqual(len(told), len(outer) - len(inner))
        self.assertEqual(Space(inner.prime, inner.length, inner.basis() + told), outer)

    def test_every_pair(self):
        for prime, length in ((2, 3), (3, 2), (5, 2), (2, 0)):
            for mine, one, yours, other in every_pair(prime, length):
                if mine <= yours:
                    self.check(one, other)
                else:
                    with self.assertRaises(NotWithin):
                        extension(one, other)

    def test_great_spaces(self):
        random = Random(6)
        for prime in PRIMES:
            rows = [[random.randrange(prime) for _ in range(12)] for _ in range(9)]
            for many in range(10):
                self.check(Space(prime, 12, rows[:many]), Space(prime, 12, rows))
            self.check(Space(prime, 12), Space.whole(prime, 12))

    def test_list_is_new_and_by_name(self):
        inner, outer = Space(3, 2, [(1, 1)]), Space.whole(3, 2)
        extension(inner, outer).append((0, 0))
        told = extension(outer=outer, inner=inner)
        self.assertEqual(len(told), 1)
        self.assertNotIn(told[0], inner)
        self.assertEqual(extension(inner, inner), [])
        self.assertEqual((inner.text(), outer.text()), ("3 2; 1 1", "3 2; 1 0; 0 1"))

    def test_unlike_comes_before_not_within(self):
        with self.assertRaises(UnlikeSpaces):
            extension(Space.whole(2, 3), Space(2, 2))


def sent_by_hand(prime, vector, matrix):
    total = [0] * len(vector)
    for item, row in zip(vector, matrix):
        for at in range(len(vector)):
            total[at] += item * row[at]
    return tuple(item % prime for item in total)


class Images(unittest.TestCase):
    def test_against_all_vectors(self):
        random = Random(7)
        for prime, length in ((2, 3), (3, 2), (5, 2), (13, 1)):
            for vectors in all_spans(prime, length):
                space = Space(prime, length, sorted(vectors))
                for _ in range(6):
                    matrix = [[random.randrange(-20, 20) for _ in range(length)] for _ in range(length)]
                    expected = {sent_by_hand(prime, vector, matrix) for vector in vectors}
                    self.assertEqual(set(image(space, matrix).vectors()), expected)

    def test_rows_are_the_images_of_the_unit_vectors(self):
        matrix = [(0, 1, 2), (1, 0, 0), (0, 0, 0)]
        self.assertEqual(image(Space(3, 3, [(1, 0, 0)]), matrix).basis(), [(0, 1, 2)])
        self.assertEqual(image(Space(3, 3, [(0, 1, 0)]), matrix).basis(), [(1, 0, 0)])
        self.assertEqual(image(Space(3, 3, [(0, 0, 1)]), matrix).basis(), [])
        self.assertEqual(image(Space(3, 3, [(1, 1, 1)]), matrix).basis(), [(1, 1, 2)])

    def test_lists_tuples_and_great_integers(self):
        space = Space(7, 2, [(1, 3)])
        expected = Space(7, 2, [(10, 14)])
        far = 7 * 10 ** 28
        for matrix in ([[1, 2], [3, 4]], ((1, 2), (3, 4)), [(1, 2), [3, 4]], ([1, 2], (3, 4)),
                       [[1 - 70, 2 + far], [3 - far, 4 - 7]]):
            self.assertEqual(image(space, matrix), expected)
        self.assertEqual(image(matrix=[[1, 2], [3, 4]], space=space), expected)
        self.assertEqual(space.text(), "7 2; 1 3")

    def test_length_zero(self):
        for prime in PRIMES:
            for matrix in ([], ()):
                self.assertEqual(image(Space(prime, 0), matrix), Space(prime, 0))
            for matrix in ([[]], [()], [[0]], None, "", {}, 0, False):
                with self.assertRaises(BadMatrix):
                    image(Space(prime, 0), matrix)

    def test_length_twelve(self):
        for prime in PRIMES:
            shift = [[int(j == (i + 1) % 12) for j in range(12)] for i in range(12)]
            rows = [[(i + j * j) % prime for j in range(12)] for i in range(3)]
            shifted = [row[-1:] + row[:-1] for row in rows]
            self.assertEqual(image(Space(prime, 12, rows), shift), Space(prime, 12, shifted))

    def test_bad_matrix(self):
        space = Space(5, 2, [(1, 1)])
        for matrix in (
            [], [[1, 0]], [[1, 0], [0, 1], [1, 1]], [[1], [0]], [[1, 0], [0]], [[1, 0, 0], [0, 1, 0]], [[1, 0], []],
            [[1, 0], None], [[1, 0], "01"], ["10", "01"], [[1, 0], {0: 0, 1: 1}], [[1, 0], 7], [1, 0],
            [[1, True], [0, 1]], [[1, 0], [False, 1]], [[1, None], [0, 1]], [["1", 0], [0, 1]], [[1, [0]], [0, 1]],
            None, True, False, 0, 2, "", "10", {}, {0: [1, 0], 1: [0, 1]},
        ):
            with self.subTest(matrix=matrix):
                kept = deepcopy(matrix)
                for each in (space, Space(5, 2), Space.whole(5, 2)):
                    with self.assertRaises(BadMatrix):
                        image(each, matrix)
                self.assertEqual(matrix, kept)
        self.assertEqual(space.text(), "5 2; 1 1")

    def test_matrix_is_left_as_it_is(self):
        matrix = [[-8, 9], [10, 11]]
        told = image(Space.whole(5, 2), matrix)
        self.assertEqual(matrix, [[-8, 9], [10, 11]])
        matrix[0][0] = 0
        self.assertEqual(told, Space.whole(5, 2))


if __name__ == "__main__":
    unittest.main()

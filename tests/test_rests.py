import unittest

from handspaces.errors import BadPrime, NoInverse
from handspaces.rests import inverse, is_integer, is_prime

PRIMES = (2, 3, 5, 7, 11, 13)
INTEGERS = [0, 1, -1, 2, -2, 12, 17, 10 ** 30, -10 ** 30]
NO_INTEGERS = [
    None, True, False, "", "2", "a", [], [2], (), (2,), {}, {2: 3}, {"a": None}, [None, [True]], ((), (1,)),
]


class IsInteger(unittest.TestCase):
    def test_integers(self):
        for value in INTEGERS:
            self.assertIs(is_integer(value), True)

    def test_other_values(self):
        for value in NO_INTEGERS:
            with self.subTest(value=value):
                self.assertIs(is_integer(value), False)

    def test_by_name(self):
        self.assertIs(is_integer(value=3), True)


class IsPrime(unittest.TestCase):
    def test_small_integers(self):
        for value in range(-20, 200):
            self.assertIs(is_prime(value), value in PRIMES)

    def test_great_integers(self):
        for value in (10 ** 30, 10 ** 30 + 57, -10 ** 30, 2 ** 61 - 1):
            self.assertIs(is_prime(value), False)

    def test_other_values(self):
        for value in NO_INTEGERS:
            with self.subTest(value=value):
                self.assertIs(is_prime(value), False)

    def test_by_name(self):
        self.assertIs(is_prime(value=13), True)


class Inverse(unittest.TestCase):
    def check(self, number, prime):
        told = inverse(number, prime)
        self.assertIs(type(told), int)
        self.assertIn(told, range(1, prime))
        self.assertEqual(number * told % prime, 1)

    def test_every_number_below_every_prime(self):
        for prime in PRIMES:
            for number in range(1, prime):
                self.check(number, prime)

    def test_numbers_below_zero_and_great_ones(self):
        for prime in PRIMES:
            for number in [*range(-30, 30), 10 ** 29 + 1, 10 ** 30 - 1, -10 ** 29 - 3, -10 ** 30 + 1]:
                if number % prime != 0:
                    self.check(number, prime)

    def test_multiples_of_the_prime(self):
        for prime in PRIMES:
            for factor in (0, 1, -1, 2, 10 ** 28, -10 ** 28):
                with self.assertRaises(NoInverse) as caught:
                    inverse(factor * prime, prime)
                self.assertEqual(caught.exception.number, factor * prime)

    def test_bad_prime_of_any_kind(self):
        for told in [*NO_INTEGERS, 0, 1, -2, -3, 4, 6, 9, 17, 10 ** 30]:
            for number in (1, 0, 4):
                with self.subTest(told=told, number=number):
                    with self.assertRaises(BadPrime) as caught:
                        inverse(number, told)
                    self.assertEqual(caught.exception.told, told)
                    self.assertIs(type(caught.exception.told), type(told))

    def test_by_name_and_example(self):
        self.assertEqual(inverse(3, 7), 5)
        self.assertEqual(inverse(prime=7, number=3), 5)


if __name__ == "__main__":
    unittest.main()

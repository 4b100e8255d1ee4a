"""Integers modulo one of the six primes."""

from handspaces.errors import BadPrime, NoInverse

PRIMES = (2, 3, 5, 7, 11, 13)


def is_integer(value):
    """Whether a value is an integer; True and False are none."""
    return isinstance(value, int) and not isinstance(value, bool)


def is_prime(value):
    """Whether a value is one of the primes of this package."""
    return is_integer(value) and value in PRIMES


def check_prime(prime):
    """Raise an error unless a value is one of the primes of this package."""
    if not is_prime(prime):
        raise BadPrime(prime)


def inverse(number, prime):
    """The integer below the prime whose product with the number is 1 modulo the prime."""
    check_prime(prime)
    for factor in range(1, prime):
        if number * factor % prime == 1:
            return factor
    raise NoInverse(number)


def power(base, exponent):
    """An integer multiplied with itself so many times."""
    result = 1
    for _ in range(exponent):
        result = result * base
    return result

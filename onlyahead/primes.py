"""The primes by which counters count."""

from onlyahead.kinds import is_number

PRIMES = (2, 3, 5, 7, 11, 13, 17, 19, 23, 29, 31, 37, 41, 43, 47, 53, 59, 61, 67, 71, 73, 79, 83, 89, 97)


def is_prime(value):
    """Whether any value is a prime from 2 to 97."""
    return is_number(value) and value in PRIMES

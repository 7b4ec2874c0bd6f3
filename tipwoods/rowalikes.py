"""Rows that grow the same bush, told by their primes."""

from tipwoods.bushes import check_growths
from tipwoods.primes import prime_tuple


def _primes_of_row(growths):
    """Return the primes of a row."""
    return tuple([prime for growth in growths for prime in prime_tuple(growth)])


def row_primes(growths):
    """Return the primes of a row of growths."""
    check_growths(growths)
    return _primes_of_row(growths)


def rows_alike(growths, others):
    """Return whether the bushes of two rows are one."""
    check_growths(growths)
    check_growths(others)
    return _primes_of_row(growths) == _primes_of_row(others)


def parting_prime(growths, others):
    """Return the least index at which the primes of two rows are not the same, None if there is none."""
    check_growths(growths)
    check_growths(others)
    primes = _primes_of_row(growths)
    mates = _primes_of_row(others)
    shared = min(len(primes), len(mates))
    for index in range(shared):
        if primes[index] != mates[index]:
            return index
    if len(primes) == len(mates):
        return None
    return shared

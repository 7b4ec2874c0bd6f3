"""The first and last years that two bushes share, and what stands between two others."""

from tipwoods.basics import grow_row
from tipwoods.bushes import check_bush
from tipwoods.cuts import lower_of, upper_of
from tipwoods.primes import prime_tuple


def _shared(primes, mates):
    """Return how many primes at the beginning of both are the same."""
    shared = 0
    for prime, mate in zip(primes, mates):
        if prime != mate:
            return shared
        shared += 1
    return shared


def shared_first(bush, other):
    """Return the bush with the most primes that two bushes share at first."""
    check_bush(bush)
    check_bush(other)
    primes = prime_tuple(bush)
    return grow_row(primes[:_shared(primes, prime_tuple(other))])


def shared_last(bush, other):
    """Return the bush with the most primes that two bushes share at last."""
    check_bush(bush)
    check_bush(other)
    primes = prime_tuple(bush)
    shared = _shared(primes[::-1], prime_tuple(other)[::-1])
    return grow_row(primes[len(primes) - shared:])


def put_between(bush, upper, lower):
    """Return the bush by which the upper one grows to what the lower one makes a bush, None if there is none."""
    check_bush(bush)
    check_bush(upper)
    check_bush(lower)
    below = lower_of(bush, upper)
    if below is None:
        return None
    return upper_of(below, lower)

"""Powers of bushes, their roots, and which bushes exchange."""

from math import gcd

from tipwoods.basics import check_number, grow_row
from tipwoods.bushes import check_bush
from tipwoods.growing import check_room
from tipwoods.primes import prime_tuple

MOST_TIMES = 60


def do_exchange(bush, other):
    """Return whether either of two bushes, grown by the other one, comes to the same."""
    check_bush(bush)
    check_bush(other)
    primes = prime_tuple(bush)
    mates = prime_tuple(other)
    return primes + mates == mates + primes


def root_length(primes):
    """Return the least number of primes, at the beginning of some, that they are when these come again and again."""
    return min([size for size in range(1, len(primes) + 1) if primes == (primes[size:] + primes[:size])])


def _root(bush):
    """Return the primes of the root of a bush other than the tip, and its times."""
    primes = prime_tuple(bush)
    size = root_length(primes)
    return primes[:size], len(primes) // size


def root_of(bush):
    """Return the root of a bush and its times, None for the tip."""
    check_bush(bush)
    if not bush:
        return None
    primes, times = _root(bush)
    return grow_row(primes), times


def power_of(bush, times):
    """Return the power of a bush by so many times."""
    check_bush(bush)
    check_number(times, 0, MOST_TIMES)
    growths = (bush,) * times
    check_room((), growths)
    return grow_row(growths)


def common_root(bush, other):
    """Return the bush with the most primes of which two bushes are powers, None if there is none."""
    check_bush(bush)
    check_bush(other)
    if not bush or not other:
        # The tip is a power of each bush, by 0 times.
        return bush or other
    primes, times = _root(bush)
    mates, other_times = _root(other)
    if primes != mates:
        return None
    return grow_row(primes * gcd(times, other_times))

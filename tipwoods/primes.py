"""The prime bushes into which each bush is cut in one way alone."""

from tipwoods.bushes import check_bush
from tipwoods.cuts import all_cuts, upper_of


def is_prime_bush(bush):
    """Return whether a bush is prime."""
    # The tip has one cut alone; any other bush has at least two with the tip.
    return len(all_cuts(bush)) == 2


def prime_tuple(bush):
    """Return the primes of a bush."""
    # What stands between the lower bushes of two neighbouring cuts can not be cut again.
    lowers = [lower for _, lower in all_cuts(bush)]
    return tuple([upper_of(lowers[at], lowers[at + 1]) for at in range(len(lowers) - 1)])


def is_prime(bush):
    """Return whether a bush is prime."""
    check_bush(bush)
    return is_prime_bush(bush)


def primes_of(bush):
    """Return the primes of a bush."""
    check_bush(bush)
    return prime_tuple(bush)


def first_prime(bush):
    """Return the first prime of a bush, None for the tip."""
    check_bush(bush)
    if not bush:
        return None
    return prime_tuple(bush)[0]


def last_prime(bush):
    """Return the last prime of a bush, None for the tip."""
    check_bush(bush)
    if not bush:
        return None
    return prime_tuple(bush)[-1]

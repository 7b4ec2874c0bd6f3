"""Bushes whose primes are led round, the last ones to the front."""

from tipwoods.basics import MOST_PARTS, check_number, counts_grown, grow_row
from tipwoods.bushes import check_bush
from tipwoods.errors import NoKnot, TooMany
from tipwoods.powers import root_length
from tipwoods.primes import prime_tuple

MOST_PRIMES = 60


def _rounds_of(bush):
    """Return the list of the primes of all round bushes, in the order of the least index that tells them."""
    primes = prime_tuple(bush)
    if not primes:
        return [primes]
    # From the length of the root on, the same ones come again.
    return [primes[index:] + primes[:index] for index in range(root_length(primes))]


def round_bushes(bush):
    """Return the list of all round bushes, in the order of the least index that tells them."""
    check_bush(bush)
    rounds = _rounds_of(bush)
    for primes in rounds:
        # They all have as many tips, and one height.
        knots, tips, _, _ = counts_grown((), primes)
        if knots + tips > MOST_PARTS:
            raise TooMany(MOST_PARTS)
    return [grow_row(primes) for primes in rounds]


def round_index(bush, other):
    """Return the least index by which the other bush is a round bush of a bush, or None."""
    check_bush(bush)
    check_bush(other)
    rounds = _rounds_of(bush)
    primes = prime_tuple(other)
    if primes not in rounds:
        return None
    return rounds.index(primes)


def led_over(bush, other, many):
    """Return the list of the tuples of at most so many primes that lead a bush over to the other one, fewer first.

    The bush of such a tuple, grown by the bush, is the other one grown by it.
    """
    check_bush(bush)
    check_bush(other)
    check_number(many, 0, MOST_PRIMES)
    if not bush or not other:
        raise NoKnot("the tip leads nothing over")
    primes = prime_tuple(bush)
    mates = prime_tuple(other)
    # What is led over begins with the other one, again and again, as far as it goes.
    heads = [(mates * many)[:size] for size in range(many + 1)]
    return [head for head in heads if head + primes == mates + head]

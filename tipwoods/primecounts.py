"""Bushes and primes of a store, counted by their knots and tips."""

from math import comb

from tipwoods.basics import MOST_BRANCHES, check_number, is_letter, is_number
from tipwoods.errors import InvalidStore, TooMany
from tipwoods.primes import is_prime_bush

MOST_KNOTS = 16
MOST_TIPS = 100
MOST_LISTED = 300
WAYS_BITS = 64
WAYS_MASK = (1 << 64) - 1


def _is_kind(value):
    """Return whether any value is a pair of a letter and of a number of branches."""
    if not isinstance(value, tuple) or len(value) != 2:
        return False
    return is_letter(value[0]) and is_number(value[1], 1, MOST_BRANCHES)


def is_store(value):
    """Return whether any value is a store."""
    if not isinstance(value, tuple) or not 1 <= len(value) <= 8:
        return False
    if not all([_is_kind(pair) for pair in value]):
        return False
    return all([pair < mate for pair, mate in zip(value, value[1:])])


def check_store(value):
    """Raise InvalidStore unless a value is a store."""
    if not is_store(value):
        raise InvalidStore("no store")


def _kind_choices(store, knots):
    """Return the list, for 0 to so many kinds, in order, of in how many ways they have how many branches.

    Each entry is one integer, in which the ways with 0, 1, .. more branches than
    there are kinds stand behind one another, each in bits of its own: so all of
    them are multiplied at once. They are at most 8 to the power of 16 together.
    """
    kinds = 0
    for _, branches in store:
        kinds += 1 << (WAYS_BITS * (branches - 1))
    choices = [1]
    for _ in range(knots):
        choices.append(choices[-1] * kinds)
    return choices


def _count_by_ways(ways, knots, tips):
    """Return how many bushes have so many knots and tips, by the ways in which knots have so many branches."""
    # A bush is told by the kinds of its knots, and its tips, in the order of its
    # text. Of all the orders that come of one by leading it round, one is a bush's.
    return ways * comb(knots + tips, tips) // (knots + tips)


def _count_bushes(choices, knots, tips):
    """Return how many bushes have so many knots and tips, by the choices of kinds."""
    # Each branch leads to a knot or to a tip, and all of these but the root are led to.
    ways = choices[knots] >> (WAYS_BITS * (tips - 1))
    return _count_by_ways(ways & WAYS_MASK, knots, tips)


def _count_all_bushes(choices, knots):
    """Return how many bushes have so many knots, by the choices of kinds."""
    found = 0
    tips = 1
    left = choices[knots]
    while left > 0:
        found += _count_by_ways(left & WAYS_MASK, knots, tips)
        left >>= WAYS_BITS
        tips += 1
    return found


def bushes_counted(store, knots, tips):
    """Return how many bushes of a store have so many knots and tips."""
    check_store(store)
    check_number(knots, 0, MOST_KNOTS)
    check_number(tips, 1, MOST_TIPS)
    return _count_bushes(_kind_choices(store, knots), knots, tips)


def _count_cut(choices, knots, tips, known):
    """Return how many bushes with so many knots and tips have, behind an upper bush with knots, a last prime."""
    found = 0
    for middle in range(1, min(tips, knots - 1) + 1):
        if tips % middle == 0:
            # Each of the tips of the upper bush brings all knots and tips of the last prime.
            for below in range(1, (knots - 1) // middle + 1):
                above = _count_bushes(choices, knots - below * middle, middle)
                if above > 0:
                    found += above * _count_primes(choices, below, tips // middle, known)
    return found


def _count_primes(choices, knots, tips, known):
    """Return how many primes have so many knots and tips, knots being 1 or more; what is known is kept in a dict."""
    if (knots, tips) not in known:
        found = _count_bushes(choices, knots, tips)
        if found > 0:
            found -= _count_cut(choices, knots, tips, known)
        known[(knots, tips)] = found
    return known[(knots, tips)]


def primes_counted(store, knots, tips):
    """Return how many prime bushes of a store have so many knots and tips."""
    check_store(store)
    check_number(knots, 0, MOST_KNOTS)
    check_number(tips, 1, MOST_TIPS)
    if knots == 0:
        return 0
    return _count_primes(_kind_choices(store, knots), knots, tips, {})


def _rows_of(bushes, many, knots):
    """Return the list of all rows of so many bushes, one or more, with so many knots in all.

    The bushes are told by the list of the lists of those with 0, 1, .. knots.
    """
    if many == 1:
        return [(bush,) for bush in bushes[knots]]
    found = []
    for inside in range(knots + 1):
        rows = _rows_of(bushes, many - 1, knots - inside)
        found.extend([(bush, *row) for bush in bushes[inside] for row in rows])
    return found


def _bushes_of(store, knots):
    """Return the list of all bushes of a store with so many knots."""
    bushes = [[()]]
    for inside in range(knots):
        found = []
        for letter, branches in store:
            found.extend([(letter, *row) for row in _rows_of(bushes, branches, inside)])
        bushes.append(found)
    return bushes[knots]


def prime_list(store, knots):
    """Return the ascending list of all prime bushes of a store with so many knots."""
    check_store(store)
    check_number(knots, 0, MOST_KNOTS)
    if _count_all_bushes(_kind_choices(store, knots), knots) > MOST_LISTED:
        raise TooMany(MOST_LISTED)
    return sorted([bush for bush in _bushes_of(store, knots) if is_prime_bush(bush)])

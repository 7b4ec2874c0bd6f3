"""Bushes and primes of a store, counted by their knots and tips."""

from math import comb

from tipwoods.basics import MOST_BRANCHES, check_number, is_letter, is_number
from tipwoods.errors import InvalidStore, TooMany
from tipwoods.primes import is_prime_bush

MOST_KNOTS = 16
MOST_TIPS = 100
MOST_LISTED = 300


def _is_kind(value):
    """Return whether any value is a pair of a letter and of a number of branches."""
    if not isinstance(value, tuple) or len(value) != 2:
        return False
    return is_letter(value[0]) and is_number(value[1], 1, MOST_BRANCHES)


def is_store(value):
    """Return whether any value is a store."""
    if not isinstance(value, tuple) or not 1 <= len(value) <= 8:
        return False
    if not all([_is_kind(pair) for pair in value]):
        return False
    return all([value[at] < value[at + 1] for at in range(len(value) - 1)])


def check_store(value):
    """Raise InvalidStore unless a value is a store."""
    if not is_store(value):
        raise InvalidStore("no store")


def _kind_choices(store, knots):
    """Return the list of in how many ways so many kinds, in order, have 0, 1, .. more branches than there are kinds."""
    ways = [1]
    for _ in range(knots):
        longer = [0] * (len(ways) + MOST_BRANCHES - 1)
        for more, many in enumerate(ways):
            for _, branches in store:
                longer[more + branches - 1] += many
        ways = longer
    return ways


def _count_by_tips(store, knots):
    """Return a dict with, for each number of tips that there may be, how many bushes have so many knots and it."""
    found = {}
    for more, many in enumerate(_kind_choices(store, knots)):
        # A bush is told by the kinds of its knots, and its tips, in the order of its
        # text. Of all the orders that come of one by leading it round, one is a bush's.
        tips = more + 1
        found[tips] = many * comb(knots + tips, tips) // (knots + tips)
    return found


def bushes_counted(store, knots, tips):
    """Return how many bushes of a store have so many knots and tips."""
    check_store(store)
    check_number(knots, 0, MOST_KNOTS)
    check_number(tips, 1, MOST_TIPS)
    return _count_by_tips(store, knots).get(tips, 0)


def _count_cut(bushes, primes, knots, tips):
    """Return how many bushes with so many knots and tips have, ahead of a lower bush with knots, a first prime.

    Bushes and primes are told by lists of dicts, by their knots and tips.
    """
    found = 0
    for above in range(1, knots):
        for middle, many in primes[above].items():
            # Each of the tips of the prime brings all knots and tips of the lower bush.
            below, rest = divmod(knots - above, middle)
            if rest == 0 and tips % middle == 0:
                found += many * bushes[below].get(tips // middle, 0)
    return found


def _primes_by_tips(store, knots):
    """Return a dict with, for each number of tips that there may be, how many primes have so many knots and it."""
    bushes = [_count_by_tips(store, many) for many in range(knots + 1)]
    primes = [{}]
    for many in range(1, knots + 1):
        counts = {}
        for tips in bushes[many]:
            counts[tips] = bushes[many][tips] - _count_cut(bushes, primes, many, tips)
        primes.append(counts)
    return primes[knots]


def primes_counted(store, knots, tips):
    """Return how many prime bushes of a store have so many knots and tips."""
    check_store(store)
    check_number(knots, 0, MOST_KNOTS)
    check_number(tips, 1, MOST_TIPS)
    return _primes_by_tips(store, knots).get(tips, 0)


def _rows_of(bushes, many, knots):
    """Return the list of all rows of so many bushes, one or more, with so many knots in all.

    The bushes are told by the list of the lists of those with 0, 1, .. knots.
    """
    if many == 1:
        return [(bush,) for bush in bushes[knots]]
    found = []
    for inside in range(knots + 1):
        rows = _rows_of(bushes, many - 1, knots - inside)
        found.extend([(bush, *row) for bush in bushes[inside] for row in rows])
    return found


def _bushes_of(store, knots):
    """Return the list of all bushes of a store with so many knots."""
    bushes = [[()]]
    for inside in range(knots):
        found = []
        for letter, branches in store:
            found.extend([(letter, *row) for row in _rows_of(bushes, branches, inside)])
        bushes.append(found)
    return bushes[knots]


def prime_list(store, knots):
    """Return the ascending list of all prime bushes of a store with so many knots."""
    check_store(store)
    check_number(knots, 0, MOST_KNOTS)
    counts = _count_by_tips(store, knots)
    if sum(counts.values()) > MOST_LISTED:
        raise TooMany(MOST_LISTED)
    return sorted([bush for bush in _bushes_of(store, knots) if is_prime_bush(bush)])

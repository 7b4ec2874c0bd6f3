"""Rows with so many years that only their primes tell them apart."""

from tipwoods.basics import MOST_DEPTH, MOST_GROWTHS, check_number, is_number
from tipwoods.bushes import is_bush
from tipwoods.errors import InvalidLongRow
from tipwoods.primes import prime_tuple

MOST_YEARS = 10 ** 30


def _is_pair(value):
    """Return whether any value is a pair of a growth and of a number of years."""
    if not isinstance(value, tuple) or len(value) != 2:
        return False
    return is_bush(value[0]) and is_number(value[1], 0, MOST_YEARS)


def is_long_row(value):
    """Return whether any value is a long row."""
    if not isinstance(value, tuple) or len(value) > MOST_GROWTHS:
        return False
    return all([_is_pair(pair) for pair in value])


def check_long(value):
    """Raise InvalidLongRow unless a value is a long row."""
    if not is_long_row(value):
        raise InvalidLongRow("no long row")


def pairs_with_years(long):
    """Return the list of the pairs that have years: some times of a growth that is not the tip."""
    return [(growth, years) for growth, years in long if growth and years > 0]


def _stretches(long):
    """Return the list of triples (begin, end, primes), for each pair, of the indices between which its primes stand."""
    found = []
    begin = 0
    for growth, years in long:
        primes = prime_tuple(growth)
        end = begin + years * len(primes)
        found.append((begin, end, primes))
        begin = end
    return found


def _ends_of(stretches):
    """Return the list of the indices behind each stretch."""
    return [stretch[1] for stretch in stretches]


def _length_of(stretches):
    """Return how many primes all stretches have."""
    return max(_ends_of(stretches), default=0)


def _prime_in(stretches, index):
    """Return the prime with an index."""
    begin, _, primes = [stretch for stretch in stretches if index < stretch[1]][0]
    return primes[(index - begin) % len(primes)]


def _parting(stretches, mates):
    """Return the least index at which the primes are not the same, None if there is none."""
    shared = min(_length_of(stretches), _length_of(mates))
    begin = 0
    for end in sorted(_ends_of(stretches) + _ends_of(mates)):
        # Between two ends both come again behind at most 60 primes each; if they
        # are the same for as many as both together, they are the same up to the end.
        for index in range(begin, min(end, shared, begin + 2 * MOST_DEPTH)):
            if _prime_in(stretches, index) != _prime_in(mates, index):
                return index
        begin = end
    if _length_of(stretches) == _length_of(mates):
        return None
    return shared


def long_alike(long, beside):
    """Return whether two long rows are alike."""
    check_long(long)
    check_long(beside)
    return _parting(_stretches(long), _stretches(beside)) is None


def long_parting(long, beside):
    """Return the least index at which the primes of two long rows are not equal, None if they are alike."""
    check_long(long)
    check_long(beside)
    return _parting(_stretches(long), _stretches(beside))


def long_primes(long):
    """Return how many primes a long row has."""
    check_long(long)
    return _length_of(_stretches(long))


def long_prime_at(long, index):
    """Return the prime of a long row with an index."""
    check_long(long)
    stretches = _stretches(long)
    check_number(index, 0, _length_of(stretches) - 1)
    return _prime_in(stretches, index)

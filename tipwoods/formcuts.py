"""The cuts of a bush without the order of branches, and the rows that are alike so."""

from tipwoods.basics import MOST_PARTS, check_number, parts_of
from tipwoods.bushes import check_bush, check_growths
from tipwoods.cuts import all_cuts
from tipwoods.forms import sorted_form
from tipwoods.primes import prime_tuple


def _cuts_by_size(bush):
    """Return a dict with, for each size, the cut of a bush of this size, no bush of which is the tip."""
    return {len(parts_of(lower)): (upper, lower) for upper, lower in all_cuts(bush) if upper and lower}


def _form_cuts_by_size(bush):
    """Return a dict with, for each size, the cut without order of a bush of this size."""
    # Where a bush is cut without order, the copies of the growth are all of its parts
    # with so many parts: in its form they are equal, so that this is cut with order, too.
    cuts = _cuts_by_size(sorted_form(bush))
    return {size: (sorted_form(upper), lower) for size, (upper, lower) in cuts.items()}


def cut_sizes(bush):
    """Return the ascending tuples of the sizes of all cuts, and of all cuts without order, of a bush."""
    check_bush(bush)
    return tuple(sorted(_cuts_by_size(bush))), tuple(sorted(_form_cuts_by_size(bush)))


def form_cut(bush, size):
    """Return the cut without order of a bush of a size, None if there is none."""
    check_bush(bush)
    check_number(size, 1, MOST_PARTS)
    return _form_cuts_by_size(bush).get(size)


def _primes_without_order(growths):
    """Return the primes without order of a row."""
    primes = [prime for growth in growths for prime in prime_tuple(sorted_form(growth))]
    return tuple([sorted_form(prime) for prime in primes])


def form_primes(growths):
    """Return the primes without order of a row of growths."""
    check_growths(growths)
    return _primes_without_order(growths)


def alike_rows(growths, other_growths):
    """Return whether the bushes of two rows are alike without order."""
    check_growths(growths)
    check_growths(other_growths)
    return _primes_without_order(growths) == _primes_without_order(other_growths)

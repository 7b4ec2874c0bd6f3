"""Tops of bushes: what they come of by putting bushes in the places of tips."""

from math import factorial

from tipwoods.basics import are_unlike_roots, counts_of, parts_of
from tipwoods.bushes import check_bush
from tipwoods.roads import least_road_where


def count_knot_rows(bush):
    """Return how many rows of grafts of single knots make a bush of the tip, each of its knots by one graft."""
    check_bush(bush)
    # Of all orders of the knots of a part, one in as many as they are begins with its own knot.
    orders = factorial(counts_of(bush)[0])
    for part in parts_of(bush):
        if part:
            orders //= counts_of(part)[0]
    return orders


def _put_below(top, bush):
    """Return the list of what stands in a bush at each tip of a top of it, by their numbers, None if it is no top."""
    if not top:
        return [bush]
    if are_unlike_roots(top, bush):
        return None
    found = []
    for branch, mate in zip(top[1:], bush[1:]):
        below = _put_below(branch, mate)
        if below is None:
            return None
        found.extend(below)
    return found


def is_top(bush, other):
    """Return whether a bush is a top of another one."""
    check_bush(bush)
    check_bush(other)
    return _put_below(bush, other) is not None


def lot_between(bush, other):
    """Return the lot by which another bush comes of a bush, None if this is no top of it."""
    check_bush(bush)
    check_bush(other)
    below = _put_below(bush, other)
    if below is None:
        return None
    return tuple([(number, part) for number, part in enumerate(below) if part])


def _count_tops(bush):
    """Return how many tops a bush has."""
    if not bush:
        return 1
    ways = 1
    for branch in bush[1:]:
        ways *= _count_tops(branch)
    return ways + 1


def count_tops(bush):
    """Return how many tops a bush has."""
    check_bush(bush)
    return _count_tops(bush)


def _common(bush, other):
    """Return the greatest bush that is a top of two bushes."""
    if not bush or are_unlike_roots(bush, other):
        return ()
    return (bush[0], *[_common(branch, mate) for branch, mate in zip(bush[1:], other[1:])])


def common_top(bush, other):
    """Return the greatest bush that is a top of two bushes."""
    check_bush(bush)
    check_bush(other)
    return _common(bush, other)


def _clash(part, mate):
    """Return whether two parts are knots that are unlike at their own roots."""
    return part != () and mate != () and are_unlike_roots(part, mate)


def _joined(bush, other):
    """Return the least bush of which two bushes that do not clash are tops."""
    if not bush or not other:
        return bush or other
    return (bush[0], *[_joined(branch, mate) for branch, mate in zip(bush[1:], other[1:])])


def joined_tops(bush, other):
    """Return the least bush of which two bushes are tops, None if they clash."""
    check_bush(bush)
    check_bush(other)
    if least_road_where(_clash, bush, other) is not None:
        return None
    return _joined(bush, other)


def clash_road(bush, other):
    """Return the least road at which two bushes clash, None if there is none."""
    check_bush(bush)
    check_bush(other)
    return least_road_where(_clash, bush, other)

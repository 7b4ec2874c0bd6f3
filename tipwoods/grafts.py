"""Rows of grafts, which put bushes in the places of tips, and what all bushes come to by them."""

from tipwoods.basics import MOST_DEPTH, MOST_PARTS, counts_of, is_number
from tipwoods.bushes import check_bush, is_bush
from tipwoods.errors import InvalidGrafts
from tipwoods.roads import roads_to_tips

MOST_GRAFTS = 12
MOST_TIP_NUMBER = 100


def _is_graft(value):
    """Return whether any value is a graft."""
    if not isinstance(value, tuple) or len(value) != 2:
        return False
    return is_number(value[0], 0, MOST_TIP_NUMBER) and is_bush(value[1])


def is_graft_row(value):
    """Return whether any value is a row of grafts."""
    if not isinstance(value, tuple) or len(value) > MOST_GRAFTS:
        return False
    if not all([_is_graft(graft) for graft in value]):
        return False
    counts = [counts_of(bush) for _, bush in value]
    parts = sum([knots + tips for knots, tips, _, _ in counts])
    return parts <= MOST_PARTS and sum([height for _, _, _, height in counts]) <= MOST_DEPTH


def check_grafts(value):
    """Raise InvalidGrafts unless a value is a row of grafts."""
    if not is_graft_row(value):
        raise InvalidGrafts("no row of grafts")


def count_tips(bush):
    """Return how many tips a bush has."""
    return counts_of(bush)[1]


def put_on_road(bush, road, part):
    """Return a bush with another part in the place of that to which a road leads."""
    if not road:
        return part
    at = road[0] + 1
    return (*bush[:at], put_on_road(bush[at], road[1:], part), *bush[at + 1:])


def _done_to(bush, grafts):
    """Return what a bush comes to by grafts, None if it refuses them."""
    for number, part in grafts:
        roads = roads_to_tips(bush)
        if number >= len(roads):
            return None
        bush = put_on_road(bush, roads[number], part)
    return bush


def least_tips(grafts):
    """Return the need of a row of grafts."""
    need = 1
    added = 0
    for number, bush in grafts:
        need = max(need, number + 1 - added)
        added += count_tips(bush) - 1
    return need


def lot_done(grafts):
    """Return the lot of a row of grafts."""
    # A knot with as many tips as are needed stands for all bushes that have so many, or more.
    branches = _done_to(("", *[()] * least_tips(grafts)), grafts)[1:]
    return tuple([(number, bush) for number, bush in enumerate(branches) if bush])


def grafted(bush, grafts):
    """Return what a bush comes to by a row of grafts, None if it refuses it."""
    check_bush(bush)
    check_grafts(grafts)
    return _done_to(bush, grafts)


def need_of(grafts):
    """Return the need of a row of grafts."""
    check_grafts(grafts)
    return least_tips(grafts)


def lot_of(grafts):
    """Return the lot of a row of grafts."""
    check_grafts(grafts)
    return lot_done(grafts)

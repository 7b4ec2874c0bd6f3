"""The wood of a row of grafts: which graft grows in which one, and the rows that have the same one."""

from math import factorial

from tipwoods.bushes import check_bush
from tipwoods.grafts import check_grafts, count_tips, least_tips
from tipwoods.powers import root_length


def _wood(grafts):
    """Return the list, for each graft, of the index of the one in which it grows, -1 for none, and of its spot."""
    tips = [(-1, number) for number in range(least_tips(grafts))]
    wood = []
    for index, (number, bush) in enumerate(grafts):
        wood.append(tips[number])
        tips[number:number + 1] = [(index, spot) for spot in range(count_tips(bush))]
    return wood


def wood_of(grafts):
    """Return the tuple, for each graft, of the index of the one in which it grows, -1 for none, and of its spot."""
    check_grafts(grafts)
    return tuple(_wood(grafts))


def count_led(grafts):
    """Return how many rows come of a row by leading neighbours past each other, this one counted."""
    check_grafts(grafts)
    # Each order comes so in which no graft stands ahead of the one in which it grows; of
    # the grafts that stand in one of them, it is this one that comes first in such orders.
    sizes = [1] * len(grafts)
    orders = factorial(len(grafts))
    for index, (above, _) in reversed(list(enumerate(_wood(grafts)))):
        orders //= sizes[index]
        if above >= 0:
            sizes[above] += sizes[index]
    return orders


def _grafts_by_place(grafts):
    """Return the ascending list of pairs of the place of a graft and of its bush.

    The place is the tuple of the spots of the grafts in which it stands, the
    first one first, and of its own; no two grafts have the same one.
    """
    places = []
    for above, spot in _wood(grafts):
        places.append((*places[above], spot) if above >= 0 else (spot,))
    return sorted([(place, bush) for place, (_, bush) in zip(places, grafts)])


def are_led(grafts, others):
    """Return whether one row of grafts comes of another one by leading neighbours past each other."""
    check_grafts(grafts)
    check_grafts(others)
    return _grafts_by_place(grafts) == _grafts_by_place(others)


def _first_chain(bush):
    """Return the list of the knots of the first chain of a bush, each as the tuple without its first branch."""
    chain = []
    while bush:
        chain.append((bush[0], *bush[2:]))
        bush = bush[1]
    return chain


def _chained(chain):
    """Return the bush with a first chain that is told as by _first_chain."""
    bush = ()
    for knot in reversed(chain):
        bush = (knot[0], bush, *knot[1:])
    return bush


def first_root(bush):
    """Return the first root of a bush, and how many times it stands in the bush, None for the tip."""
    check_bush(bush)
    if not bush:
        return None
    chain = _first_chain(bush)
    size = root_length(chain)
    return _chained(chain[:size]), len(chain) // size

"""The cuts of a bush into an upper and a lower bush."""

from tipwoods.basics import are_unlike_roots, roads_and_parts
from tipwoods.bushes import check_bush, is_bush
from tipwoods.roads import part_on_road


def upper_of(bush, lower):
    """Return the upper bush of the cut of a bush with this lower one, None if there is none."""
    if bush == lower:
        return ()
    if not bush:
        return None
    upper = [bush[0]]
    for branch in bush[1:]:
        above = upper_of(branch, lower)
        if above is None:
            return None
        upper.append(above)
    return tuple(upper)


def lower_of(bush, upper):
    """Return the lower bush of the cut of a bush with this upper one, None if there is none."""
    lower = None
    pairs = [(bush, upper)]
    while pairs:
        part, top = pairs.pop()
        if top:
            if are_unlike_roots(part, top):
                return None
            pairs.extend(list(zip(part[1:], top[1:])))
        elif lower is None:
            lower = part
        elif lower != part:
            return None
    return lower


def all_cuts(bush):
    """Return the list of all cuts of a bush, in ascending order of the near depths of the upper bushes."""
    # A nearest tip of the bush stands at a nearest tip of each lower bush, and
    # this at a nearest tip of the upper one: so each lower bush is on its road.
    near = [road for road, part in roads_and_parts(bush) if not part][0]
    cuts = []
    for depth in range(len(near) + 1):
        lower = part_on_road(bush, near[:depth])
        upper = upper_of(bush, lower)
        if upper is not None:
            cuts.append((upper, lower))
    return cuts


def cut_below(bush, lower):
    """Return the upper bush of the cut of a bush with this lower one, None if there is none."""
    check_bush(bush)
    check_bush(lower)
    return upper_of(bush, lower)


def cut_above(bush, upper):
    """Return the lower bush of the cut of a bush with this upper one, None if there is none."""
    check_bush(bush)
    check_bush(upper)
    return lower_of(bush, upper)


def cuts_of(bush):
    """Return the list of all cuts of a bush, that with the tip as upper bush first."""
    check_bush(bush)
    return all_cuts(bush)


def is_cut(bush, value):
    """Return whether any value is a cut of a bush."""
    check_bush(bush)
    if not isinstance(value, tuple) or len(value) != 2:
        return False
    if not all([is_bush(item) for item in value]):
        return False
    upper, lower = value
    return upper_of(bush, lower) == upper

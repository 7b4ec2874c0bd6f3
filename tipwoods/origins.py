"""Where the knots of a tended bush came from, and which deeds could have been spared."""

from tipwoods.bushes import check_bush
from tipwoods.errors import InvalidRoad
from tipwoods.gardens import check_log, tend
from tipwoods.roads import part_on_road


def _marked(bush, index, road):
    """Return a bush with, instead of the letter of each knot, the pair of an index and of its road behind a road."""
    if not bush:
        return bush
    branches = [_marked(branch, index, (*road, at)) for at, branch in enumerate(bush[1:])]
    return ((index, road), *branches)


def _marked_log(log):
    """Return the list of the deeds of a log, with marked growths, each with the index of its deed."""
    found = []
    for index, deed in enumerate(log):
        if deed[0] == "year":
            deed = ("year", _marked(deed[1], index, ()))
        found.append(deed)
    return found


def origin_of(bush, log, road):
    """Return the origin of the knot to which a road leads in a bush when it has been tended by a log."""
    check_bush(bush)
    check_log(log)
    # Marks go with their knots as letters do, but for being renamed, as none of them is a letter.
    part = part_on_road(tend(_marked(bush, -1, ()), _marked_log(log)), road)
    if not part:
        raise InvalidRoad("the road leads to a tip")
    return part[0]


def spared_deeds(bush, log):
    """Return the ascending list of the indices of all deeds without which a bush comes to the same by a log."""
    check_bush(bush)
    check_log(log)
    found = tend(bush, log)
    return [index for index in range(len(log)) if tend(bush, log[:index] + log[index + 1:]) == found]

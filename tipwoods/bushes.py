"""Bushes and rows of growths: what they are, and how great."""

from tipwoods.basics import MOST_BRANCHES, MOST_DEPTH, MOST_GROWTHS, MOST_PARTS, counts_of, is_letter, levels_of
from tipwoods.errors import InvalidBush, InvalidGrowths


def _has_form(part):
    """Return whether any value is the tip, or has a letter and as many items as a knot may have."""
    if not isinstance(part, tuple):
        return False
    if len(part) == 0:
        return True
    return 2 <= len(part) <= MOST_BRANCHES + 1 and is_letter(part[0])


def is_bush(value):
    """Return whether any value is a bush that can be handed in."""
    parts = 0
    level = [value]
    # Level by level, so that a value with ever so many parts is left early.
    for _ in range(MOST_DEPTH + 1):
        parts += len(level)
        if parts > MOST_PARTS or not all([_has_form(part) for part in level]):
            return False
        level = [branch for part in level for branch in part[1:]]
    return not level


def are_growths(value):
    """Return whether any value is a row of growths."""
    if not isinstance(value, tuple) or len(value) > MOST_GROWTHS:
        return False
    return all([is_bush(growth) for growth in value])


def check_bush(value):
    """Raise InvalidBush unless a value is a bush that can be handed in."""
    if not is_bush(value):
        raise InvalidBush("no bush that can be handed in")


def check_growths(value):
    """Raise InvalidGrowths unless a value is a row of growths."""
    if not are_growths(value):
        raise InvalidGrowths("no row of growths")


def knots_of(bush):
    """Return how many knots a bush has."""
    check_bush(bush)
    return counts_of(bush)[0]


def tips_of(bush):
    """Return how many tips a bush has."""
    check_bush(bush)
    return counts_of(bush)[1]


def near_depth(bush):
    """Return the least depth of a tip of a bush."""
    check_bush(bush)
    return counts_of(bush)[2]


def height_of(bush):
    """Return the greatest depth of a tip of a bush."""
    check_bush(bush)
    return counts_of(bush)[3]


def widths_of(bush):
    """Return the tuple of how many parts stand at each depth, from 0 to the height."""
    check_bush(bush)
    return tuple([len(level) for level in levels_of(bush)])

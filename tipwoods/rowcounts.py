"""How great the bush of a row is, whether it can be drawn or not."""

from tipwoods.basics import MOST_DEPTH, MOST_PARTS, counts_grown
from tipwoods.bushes import check_growths


def row_counts(growths):
    """Return how many knots and tips the bush of a row has, its near depth and its height."""
    check_growths(growths)
    return counts_grown((), growths)


def can_be_drawn(growths):
    """Return whether the bush of a row is one that can be handed in."""
    check_growths(growths)
    knots, tips, _, height = counts_grown((), growths)
    return knots + tips <= MOST_PARTS and height <= MOST_DEPTH

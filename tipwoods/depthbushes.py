"""Counts by depths, and the bushes that have them."""

from tipwoods.basics import MOST_DEPTH, is_number
from tipwoods.errors import InvalidCounts
from tipwoods.wordbushes import MOST_COUNTED, fewest_knots, least_bush


def check_counts(value):
    """Raise InvalidCounts unless a value is counts by depths."""
    if not isinstance(value, tuple) or not 1 <= len(value) <= MOST_DEPTH + 1:
        raise InvalidCounts("no tuple of 1 to 61 integers")
    if not all([is_number(number, 0, MOST_COUNTED) for number in value]):
        raise InvalidCounts("no number of tips")
    if value[-1] == 0:
        raise InvalidCounts("there is no tip at the greatest depth")


def _one_letter_words(counts):
    """Return the pairs of a word and of a number of tips, by which all knots of a bush have the letter "a"."""
    # Any letters do for counts by depths, so one does.
    return [("a" * depth, number) for depth, number in enumerate(counts) if number > 0]


def fewest_of_depths(counts):
    """Return the fewest knots of a bush that has counts by depths, None if they are no bush's."""
    return fewest_knots(_one_letter_words(counts))


def can_have_depths(counts):
    """Return whether counts by depths are a bush's."""
    check_counts(counts)
    return fewest_of_depths(counts) is not None


def fewest_by_depths(counts):
    """Return the fewest knots of a bush that has counts by depths, None if they are no bush's."""
    check_counts(counts)
    return fewest_of_depths(counts)


def bush_by_depths(counts):
    """Return a bush that has counts by depths and can be handed in, None if they are no bush's."""
    check_counts(counts)
    return least_bush(_one_letter_words(counts))

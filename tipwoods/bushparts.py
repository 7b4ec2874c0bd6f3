"""The parts of a bush: which bushes stand in it, where, and how often."""

from tipwoods.basics import ALPHABET, parts_in_text, parts_of, roads_and_parts, text_of
from tipwoods.bushes import check_bush


def letter_counts(bush):
    """Return the ascending tuple of the pairs of a letter and of how many knots have it."""
    check_bush(bush)
    text = text_of(bush)
    return tuple([(letter, text.count(letter)) for letter in ALPHABET if letter in text])


def _standing(bush, other):
    """Return the list of the roads at which the other bush stands, lesser ones first."""
    return [road for road, part in roads_and_parts(bush) if part == other]


def standing_roads(bush, other):
    """Return the list of all roads at which the other bush stands in a bush, lesser ones first."""
    check_bush(bush)
    check_bush(other)
    return _standing(bush, other)


def count_standing(bush, other):
    """Return at how many roads the other bush stands in a bush."""
    check_bush(bush)
    check_bush(other)
    return len(_standing(bush, other))


def _parts_by_text(bush):
    """Return a dict with, for the text of each part, the list of all parts that have it."""
    found = {}
    for part in parts_of(bush):
        found.setdefault(text_of(part), []).append(part)
    return found


def count_unlike_parts(bush):
    """Return how many bushes, equal ones counted once, are parts of a bush."""
    check_bush(bush)
    return len(_parts_by_text(bush))


def greatest_twin(bush):
    """Return the twin with the most parts, the first one of several, None if there is none."""
    check_bush(bush)
    found = _parts_by_text(bush)
    twins = [text for text in found if len(found[text]) > 1]
    if not twins:
        return None
    most = max([parts_in_text(text) for text in twins])
    first = min([text for text in twins if parts_in_text(text) == most])
    return found[first][0]

"""The least word, string of letters, or depth by which the roads of two rows are told apart."""

from tipwoods.bushes import check_growths
from tipwoods.roadwords import row_depths, row_letters, row_words


def _least_unlike(counts, mates):
    """Return the least string of which two dicts tell unlike numbers, None if there is none."""
    unlike = [word for word in list(counts) + list(mates) if counts.get(word, 0) != mates.get(word, 0)]
    if not unlike:
        return None
    return min([(len(word), word) for word in unlike])[1]


def word_apart(growths, other_growths):
    """Return the least word of which the words of two rows tell unlike numbers, None if there is none."""
    check_growths(growths)
    check_growths(other_growths)
    return _least_unlike(row_words(growths), row_words(other_growths))


def letters_apart(growths, other_growths):
    """Return the least string of which the letters of two rows tell unlike numbers, None if there is none."""
    check_growths(growths)
    check_growths(other_growths)
    return _least_unlike(row_letters(growths), row_letters(other_growths))


def depth_apart(growths, other_growths):
    """Return the least depth at which the bushes of two rows have unlike numbers of tips, None if there is none."""
    check_growths(growths)
    check_growths(other_growths)
    depths = row_depths(growths)
    mates = row_depths(other_growths)
    for depth in range(max(len(depths), len(mates))):
        # A slice behind the height is empty, and that is no tips.
        if sum(depths[depth:depth + 1]) != sum(mates[depth:depth + 1]):
            return depth
    return None

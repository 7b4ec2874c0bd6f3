"""Counts by words, and the bushes that have them."""

from tipwoods.basics import MOST_BRANCHES, MOST_DEPTH, MOST_PARTS, is_letter, is_number
from tipwoods.errors import InvalidWords, TooMany

MOST_WORDS = 200
MOST_COUNTED = 10 ** 18


def _is_word_count(value):
    """Return whether any value is a pair of a word and of how many tips have it."""
    if not isinstance(value, tuple) or len(value) != 2:
        return False
    word, number = value
    if not isinstance(word, str) or len(word) > MOST_DEPTH or not all([is_letter(sign) for sign in word]):
        return False
    return is_number(number, 1, MOST_COUNTED)


def check_words(value):
    """Raise InvalidWords unless a value is counts by words."""
    if not isinstance(value, tuple) or not 1 <= len(value) <= MOST_WORDS:
        raise InvalidWords("no tuple of 1 to 200 pairs")
    if not all([_is_word_count(pair) for pair in value]):
        raise InvalidWords("no pair of a word and of a number of tips")
    if not all([pair[0] < mate[0] for pair, mate in zip(value, value[1:])]):
        raise InvalidWords("the words are not ascending")


def _words_by_length(words):
    """Return the list, for each length of a word from 0 on, of the dict of the numbers of tips with such words."""
    found = [{} for _ in range(MOST_DEPTH + 1)]
    for word, number in words:
        found[len(word)][word] = number
    return found


def fewest_knots(words):
    """Return the fewest knots of a bush that has counts by words, None if they are no bush's."""
    knots = 0
    # The numbers of all parts, of the greatest depth first, by the words above them: as
    # few knots as can be, with full branches, are the best for all knots above them, too.
    level = {}
    for tips in reversed(_words_by_length(words)):
        above = dict(tips)
        for word, parts in level.items():
            needed = (parts + MOST_BRANCHES - 1) // MOST_BRANCHES
            above[word[:-1]] = above.get(word[:-1], 0) + needed
            knots += needed
        level = above
    if level[""] != 1:
        return None
    return knots


def _knots_over(parts, letter):
    """Return the list of the fewest knots with a letter that have some parts as their branches."""
    return [(letter, *parts[at:at + MOST_BRANCHES]) for at in range(0, len(parts), MOST_BRANCHES)]


def _bush_with_fewest_knots(words):
    """Return the bush that has counts by words, which are a bush's, and as few knots as can be."""
    level = {}
    for tips in reversed(_words_by_length(words)):
        above = {word: [()] * number for word, number in tips.items()}
        for word, parts in level.items():
            above.setdefault(word[:-1], []).extend(_knots_over(parts, word[-1]))
        level = above
    return level[""][0]


def least_bush(words):
    """Return a bush that has counts by words and can be handed in, None if they are no bush's."""
    knots = fewest_knots(words)
    if knots is None:
        return None
    if knots + sum([number for _, number in words]) > MOST_PARTS:
        raise TooMany(MOST_PARTS)
    return _bush_with_fewest_knots(words)


def can_have_words(words):
    """Return whether counts by words are a bush's."""
    check_words(words)
    return fewest_knots(words) is not None


def fewest_by_words(words):
    """Return the fewest knots of a bush that has counts by words, None if they are no bush's."""
    check_words(words)
    return fewest_knots(words)


def bush_by_words(words):
    """Return a bush that has counts by words and can be handed in, None if they are no bush's."""
    check_words(words)
    return least_bush(words)

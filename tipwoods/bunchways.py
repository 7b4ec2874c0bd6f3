"""The ways of a bunch that have the primes of a bush."""

from tipwoods.bunches import check_bunch, spelled
from tipwoods.bushes import check_bush


def _words_and_target(bunch, bush):
    """Return the words of a bunch, and the word of a bush."""
    words, _ = spelled((*bunch, bush))
    return words[:-1], words[-1]


def _begins_with(target, at, word):
    """Return whether a word stands in a target from an index on."""
    return target[at:at + len(word)] == word


def count_ways(bunch, bush):
    """Return how many ways of a bunch have the primes of a bush, 1 for the tip."""
    check_bunch(bunch)
    check_bush(bush)
    words, target = _words_and_target(bunch, bush)
    # For each index, the last one first, how many ways there are from there on.
    counts = {len(target): 1}
    for at in reversed(range(len(target))):
        counts[at] = sum([counts[at + len(word)] for word in words if _begins_with(target, at, word)])
    return counts[0]


def least_way(bunch, bush):
    """Return the first of the ways with the fewest indices that have the primes of a bush, None if there is none."""
    check_bunch(bunch)
    check_bush(bush)
    words, target = _words_and_target(bunch, bush)
    # For each index from which ways go on, the last one first, how many indices the least one has, and it.
    least = {len(target): (0, ())}
    for at in reversed(range(len(target))):
        found = []
        for index, word in enumerate(words):
            behind = at + len(word)
            if behind in least and _begins_with(target, at, word):
                size, way = least[behind]
                found.append((size + 1, (index, *way)))
        if found:
            least[at] = min(found)
    if 0 not in least:
        return None
    return least[0][1]

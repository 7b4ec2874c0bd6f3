"""Bunches of bushes, told apart by whether two ways of them can have the same primes."""

from tipwoods.basics import grow_row, number_part
from tipwoods.bushes import is_bush
from tipwoods.errors import InvalidBunch
from tipwoods.primes import prime_tuple

MOST_BUSHES = 6


def is_bunch(value):
    """Return whether any value is a bunch."""
    if not isinstance(value, tuple) or not 1 <= len(value) <= MOST_BUSHES:
        return False
    if not all([is_bush(bush) and bush != () for bush in value]):
        return False
    return all([bush not in value[:at] for at, bush in enumerate(value)])


def check_bunch(value):
    """Raise InvalidBunch unless a value is a bunch."""
    if not is_bunch(value):
        raise InvalidBunch("no bunch")


def spelled(bushes):
    """Return the list of the words of bushes, and the dict of the primes that their signs stand for.

    A word is the tuple of the numbers of the primes of a bush, which are its
    signs; equal primes have one number.
    """
    numbers = {}
    words = []
    signs = {}
    for bush in bushes:
        primes = prime_tuple(bush)
        word = tuple([number_part(prime, numbers) for prime in primes])
        signs.update(dict(zip(word, primes)))
        words.append(word)
    return words, signs


def _first_steps(words):
    """Return the list of pairs of a left over, and of the two ways of one index that leave it."""
    steps = []
    for longer, word in enumerate(words):
        for shorter, mate in enumerate(words):
            if longer != shorter and word[:len(mate)] == mate:
                steps.append((word[len(mate):], ((longer,), (shorter,))))
    return steps


def _steps_behind(words, rest, ways):
    """Return the list of pairs as _first_steps does, for those that come of a left over by one index more.

    The primes of the first way are those of the second one, and the left over
    behind them; so the second one is the one that goes on.
    """
    longer, shorter = ways
    steps = []
    for index, word in enumerate(words):
        further = (*shorter, index)
        if rest[:len(word)] == word:
            steps.append((rest[len(word):], (longer, further)))
        elif word[:len(rest)] == rest:
            steps.append((word[len(rest):], (further, longer)))
    return steps


def _ways_to_left_overs(words):
    """Return a dict with, for each left over of some words, two ways that leave it, the one with more primes first."""
    found = {}
    steps = _first_steps(words)
    while steps:
        fresh = []
        for rest, ways in steps:
            if rest not in found:
                found[rest] = ways
                fresh.append(rest)
        # With both ways alike, nothing is left that could go on.
        steps = [step for rest in fresh if rest for step in _steps_behind(words, rest, found[rest])]
    return found


def left_overs(bunch):
    """Return the ascending list of the left overs of a bunch."""
    check_bunch(bunch)
    words, signs = spelled(bunch)
    return sorted([tuple([signs[sign] for sign in rest]) for rest in _ways_to_left_overs(words)])


def two_ways(bunch):
    """Return a pair of unlike ways of a bunch with the same primes, None if it is not tangled."""
    check_bunch(bunch)
    words, _ = spelled(bunch)
    return _ways_to_left_overs(words).get(())


def _untangled(words):
    """Return the words of the base of the bunch that has some words."""
    ways = _ways_to_left_overs(words).get(())
    while ways is not None:
        # Both ways tell the same words of the base, so that of the two words with
        # which they begin the longer one goes on, behind the other one, with such.
        shorter, longer = sorted([words[way[0]] for way in ways], key=len)
        rest = longer[len(shorter):]
        words = [word for word in words if word != longer and word != rest] + [rest]
        ways = _ways_to_left_overs(words).get(())
    return words


def base_of(bunch):
    """Return the base of a bunch."""
    check_bunch(bunch)
    words, signs = spelled(bunch)
    bushes = [grow_row([signs[sign] for sign in word]) for word in _untangled(words)]
    return tuple(sorted(bushes))

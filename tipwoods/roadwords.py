"""What is on the roads to the tips of the bush of a row: words, letters, or their number alone."""

from tipwoods.basics import ALPHABET, levels_of
from tipwoods.bushes import check_growths
from tipwoods.errors import TooMany

MOST_PAIRS = 2000
# No letter comes as often as 1024 times on a road: twelve growths are at most 720 high.
LETTER_BITS = 10


def _words_from(bush):
    """Return the list of the words of all tips of a bush."""
    if not bush:
        return [""]
    return [bush[0] + word for branch in bush[1:] for word in _words_from(branch)]


def _counted(words):
    """Return a dict of how often each of some words comes."""
    found = {}
    for word in words:
        found[word] = found.get(word, 0) + 1
    return found


def _joined(counts, mates):
    """Return the counts of all sums of a key of the first counts and of one of the other ones."""
    found = {}
    for key, many in counts.items():
        for mate, more in mates.items():
            found[key + mate] = found.get(key + mate, 0) + many * more
        # No later year makes these fewer: keys with the same sum behind them stay unlike.
        if len(found) > MOST_PAIRS:
            raise TooMany(MOST_PAIRS)
    return found


def row_words(growths):
    """Return a dict of how many tips of the bush of a row have each word."""
    found = {"": 1}
    for growth in growths:
        found = _joined(found, _counted(_words_from(growth)))
    return found


def _packed(word):
    """Return the integer that has, in bits of its own for each letter, how often it stands in a word."""
    return sum([1 << (LETTER_BITS * ALPHABET.index(letter)) for letter in word])


def _unpacked(number):
    """Return the string of the letters of a word, in the order of the alphabet, that is packed in an integer."""
    text = ""
    for letter in ALPHABET:
        text += letter * (number & ((1 << LETTER_BITS) - 1))
        number >>= LETTER_BITS
    return text


def row_letters(growths):
    """Return a dict of how many tips of the bush of a row have each string of letters."""
    found = {0: 1}
    for growth in growths:
        found = _joined(found, _counted([_packed(word) for word in _words_from(growth)]))
    return {_unpacked(number): many for number, many in found.items()}


def product_of(counts, mates):
    """Return the product of two lists of integers."""
    found = [0] * (len(counts) + len(mates) - 1)
    for at, many in enumerate(counts):
        for behind, more in enumerate(mates):
            found[at + behind] += many * more
    return found


def row_depths(growths):
    """Return the list of how many tips of the bush of a row stand at each depth, up to its height."""
    found = [1]
    for growth in growths:
        found = product_of(found, [level.count(()) for level in levels_of(growth)])
    return found


def words_of(growths):
    """Return the words of a row of growths."""
    check_growths(growths)
    return tuple(sorted(row_words(growths).items()))


def road_letters_of(growths):
    """Return the letters of a row of growths."""
    check_growths(growths)
    return tuple(sorted(row_letters(growths).items()))


def depths_of(growths):
    """Return the depths of a row of growths."""
    check_growths(growths)
    return tuple(row_depths(growths))

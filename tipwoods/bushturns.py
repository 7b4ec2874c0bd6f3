"""Bushes mirrored and renamed."""

from tipwoods.basics import ALPHABET, is_letter, text_of
from tipwoods.bushes import check_bush
from tipwoods.errors import InvalidNames
from tipwoods.roads import part_on_road


def mirror_of(bush):
    """Return the mirror of a bush."""
    if not bush:
        return bush
    branches = [mirror_of(branch) for branch in reversed(bush[1:])]
    return (bush[0], *branches)


def mirrored_bush(bush):
    """Return the mirror of a bush."""
    check_bush(bush)
    return mirror_of(bush)


def mirrored_road(bush, road):
    """Return the road in the mirror to the mirror of the part to which a road leads."""
    check_bush(bush)
    part_on_road(bush, road)
    turned = []
    part = bush
    for index in road:
        turned.append(len(part) - 2 - index)
        part = part[index + 1]
    return tuple(turned)


def is_own_mirror(bush):
    """Return whether a bush is its mirror."""
    check_bush(bush)
    return bush == mirror_of(bush)


def check_names(value):
    """Raise InvalidNames unless a value is a string of all letters, each once."""
    if not isinstance(value, str) or sorted(value) != list(ALPHABET):
        raise InvalidNames("no string of all 26 letters, each once")


def renamed_by(bush, table):
    """Return a bush with, instead of each letter that is in a dict, the one that it gives for it."""
    if not bush:
        return bush
    branches = [renamed_by(branch, table) for branch in bush[1:]]
    return (table.get(bush[0], bush[0]), *branches)


def renamed_bush(bush, names):
    """Return the bush renamed by names."""
    check_bush(bush)
    check_names(names)
    return renamed_by(bush, dict(zip(ALPHABET, names)))


def _plain(bush):
    """Return the plain bush of a bush."""
    table = {}
    for sign in text_of(bush):
        if is_letter(sign) and sign not in table:
            table[sign] = ALPHABET[len(table)]
    return renamed_by(bush, table)


def plain_bush(bush):
    """Return the plain bush of a bush."""
    check_bush(bush)
    return _plain(bush)


def names_between(bush, other):
    """Return the ascending tuple of the pairs of letters by which one bush becomes the other one, or None."""
    check_bush(bush)
    check_bush(other)
    if _plain(bush) != _plain(other):
        return None
    # As both plain bushes are one, the texts are alike sign by sign, but for the letters.
    pairs = dict(zip(text_of(bush), text_of(other)))
    return tuple([(letter, pairs[letter]) for letter in ALPHABET if letter in pairs])

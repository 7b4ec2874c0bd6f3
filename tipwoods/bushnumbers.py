"""All bushes of so many knots, letters and branches: how many, which, and where one stands among them."""

from tipwoods.basics import ALPHABET, MOST_BRANCHES, check_number, counts_of, parts_of
from tipwoods.bushes import check_bush

MOST_KNOTS = 20


def _joined(ways, others, knots):
    """Return in how many ways two things have so many knots together, each being told by its knots."""
    return sum([ways[k] * others[knots - k] for k in range(knots + 1)])


def _all_joined(ways, others):
    """Return the list of _joined for all numbers of knots."""
    return [_joined(ways, others, knots) for knots in range(len(ways))]


def _nothing_behind(knots):
    """Return the list of in how many ways nothing has 0, 1, .. knots, up to so many."""
    return [1] + [0] * knots


def _row_ways(bushes, most):
    """Return the list, for 0 to the most bushes, of the lists of how many rows of at most so many have how many knots.

    The bushes are told by the list of how many there are with 0, 1, .. knots.
    """
    rows = [_nothing_behind(len(bushes) - 1)]
    for _ in range(most):
        longer = _all_joined(bushes, rows[-1])
        longer[0] += 1
        rows.append(longer)
    return rows


def _bush_ways(knots, letters, most):
    """Return the list of how many bushes have 0, 1, .. knots, up to so many."""
    bushes = [1]
    for inside in range(knots):
        # A knot has a first branch, and behind it a row of branches, be it an empty one.
        rows = _row_ways(bushes, most - 1)
        bushes.append(letters * _joined(bushes, rows[-1], inside))
    return bushes


def _check_kinds(letters, most):
    """Raise InvalidNumber unless there can be so many letters, and so many branches."""
    check_number(letters, 1, len(ALPHABET))
    check_number(most, 1, MOST_BRANCHES)


def count_bushes(knots, letters, most):
    """Return how many bushes there are."""
    check_number(knots, 0, MOST_KNOTS)
    _check_kinds(letters, most)
    return _bush_ways(knots, letters, most)[knots]


def _knot_ways(rows, knots, behind):
    """Return how many ways go on behind one letter, if so many knots, this one counted, are left.

    Behind the branches of its knot comes what is told by the ways behind.
    """
    inside = knots - 1
    # No knot has the empty row as its branches.
    return _joined(rows[-1], behind, inside) - behind[inside]


def _part_at(rows, knots, behind, index):
    """Return the part with which the way with an index begins, the knots left for, and the index among, those behind.

    The ways are all parts, and behind each of them the ways behind, that have
    so many knots together; they are in the order of their texts.
    """
    if index < behind[knots]:
        return (), knots, index
    letter, index = divmod(index - behind[knots], _knot_ways(rows, knots, behind))
    branches, left, index = _branches_at(rows, knots - 1, behind, index)
    return (ALPHABET[letter], *branches), left, index


def _branches_at(rows, knots, behind, index):
    """Return the branches with which the way with an index begins, and the rest as _part_at does."""
    branches = []
    for more in reversed(range(len(rows) - 1)):
        if branches:
            # A knot that ends here comes ahead of one with a further branch.
            if index < behind[knots]:
                return branches, knots, index
            index -= behind[knots]
        branch, knots, index = _part_at(rows, knots, _all_joined(rows[more], behind), index)
        branches.append(branch)
    return branches, knots, index


def bush_at(knots, letters, most, index):
    """Return the bush with an index, in Python's order."""
    check_number(knots, 0, MOST_KNOTS)
    _check_kinds(letters, most)
    bushes = _bush_ways(knots, letters, most)
    check_number(index, 0, bushes[knots] - 1)
    return _part_at(_row_ways(bushes, most), knots, _nothing_behind(knots), index)[0]


def _index_of(rows, part, knots, behind):
    """Return how many ways stand ahead of all that begin with a part, and the knots left for what is behind it."""
    if not part:
        return 0, knots
    index = behind[knots] + ALPHABET.index(part[0]) * _knot_ways(rows, knots, behind)
    knots -= 1
    for at, branch in enumerate(part[1:]):
        if at > 0:
            index += behind[knots]
        more = len(rows) - 2 - at
        ahead, knots = _index_of(rows, branch, knots, _all_joined(rows[more], behind))
        index += ahead
    return index, knots


def _is_counted(bush, letters, most):
    """Return whether a bush is among those that are counted."""
    if counts_of(bush)[0] > MOST_KNOTS:
        return False
    knots = [part for part in parts_of(bush) if part]
    return all([knot[0] in ALPHABET[:letters] and len(knot) - 1 <= most for knot in knots])


def bush_index(bush, letters, most):
    """Return the index of a bush among those with as many knots, None if it is not among them."""
    check_bush(bush)
    _check_kinds(letters, most)
    if not _is_counted(bush, letters, most):
        return None
    knots = counts_of(bush)[0]
    rows = _row_ways(_bush_ways(knots, letters, most), most)
    return _index_of(rows, bush, knots, _nothing_behind(knots))[0]

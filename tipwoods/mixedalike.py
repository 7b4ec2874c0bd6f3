"""Mixed bushes grown by mixed rows, compared without drawing them."""

from tipwoods.basics import are_unlike_roots, way_back
from tipwoods.mixedbushes import check_changes, check_mixed, check_sorts


def _number_grown(mixed, tips, numbers):
    """Return the number of what comes of a mixed bush if its tips are replaced by what has the numbers by sorts.

    The dict of numbers has, as its keys, the tuples of a letter and of the
    numbers of the branches; equal parts have one number.
    """
    if not isinstance(mixed, tuple):
        return tips[mixed]
    key = (mixed[0], *[_number_grown(branch, tips, numbers) for branch in mixed[1:]])
    return numbers.setdefault(key, len(numbers))


def _number_by_row(sorts, mixed, changes, numbers):
    """Return the number of a mixed bush grown by a mixed row; a tip's key is the tuple of its sort."""
    tips = [numbers.setdefault((sort,), len(numbers)) for sort in range(sorts)]
    # From the last year on, so that each growth is told once for each of its years.
    for change in reversed(changes):
        tips = [_number_grown(growth, tips, numbers) for growth in change]
    return _number_grown(mixed, tips, numbers)


def _check_both(sorts, mixed, changes, mate, others):
    """Check two mixed bushes, each with the mixed row by which it is grown."""
    check_sorts(sorts)
    check_mixed(sorts, mixed)
    check_changes(sorts, changes)
    check_mixed(sorts, mate)
    check_changes(sorts, others)


def grow_alike(sorts, mixed, changes, mate, others):
    """Return whether a mixed bush grown by a mixed row, and another one grown by another, are equal."""
    _check_both(sorts, mixed, changes, mate, others)
    numbers = {}
    return _number_by_row(sorts, mixed, changes, numbers) == _number_by_row(sorts, mate, others, numbers)


def _head_of(heads, number):
    """Return the number that stands for all those to which a number has been joined."""
    while heads[number] != number:
        heads[number] = heads[heads[number]]
        number = heads[number]
    return number


def _least_unlike_road(parts, number, mate):
    """Return the least road at which the parts with two numbers are unlike, None if they are equal."""
    # Parts that stood beside each other are joined. Two parts that are joined already are
    # not followed again: if they are unlike at a road, so are, at it or at one that begins
    # it, two of those by which they were joined, which stood beside each other earlier.
    heads = list(range(len(parts)))
    steps = [None]
    level = [(0, number, mate)]
    while level:
        below = []
        for at, part, other in level:
            head = _head_of(heads, part)
            other_head = _head_of(heads, other)
            if head != other_head:
                if are_unlike_roots(parts[part], parts[other]):
                    return way_back(steps, at)
                heads[head] = other_head
                for index, branches in enumerate(zip(parts[part][1:], parts[other][1:])):
                    below.append((len(steps), *branches))
                    steps.append((at, index))
        level = below
    return None


def mixed_unlike(sorts, mixed, changes, mate, others):
    """Return the least road at which two mixed bushes, grown by two mixed rows, are unlike, None if they are equal."""
    _check_both(sorts, mixed, changes, mate, others)
    numbers = {}
    number = _number_by_row(sorts, mixed, changes, numbers)
    other = _number_by_row(sorts, mate, others, numbers)
    return _least_unlike_road(list(numbers), number, other)

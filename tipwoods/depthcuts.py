"""Counts by depths divided, and taken apart into equal ones; tips of many equal years."""

from tipwoods.basics import check_number, levels_of
from tipwoods.bushes import check_bush
from tipwoods.depthbushes import check_counts, fewest_of_depths
from tipwoods.roadwords import product_of

MOST_TIMES = 12
MOST_YEARS = 2000
MOST_MORE = 60


def _divided(counts, other):
    """Return the list of integers, none below 0, whose product with other counts is the counts, None if there is none.

    The counts are not shorter than the other ones.
    """
    rest = list(counts)
    found = []
    # The greatest depth comes first: there just one product adds up to each number.
    for at in reversed(range(len(counts) - len(other) + 1)):
        number, left = divmod(rest[at + len(other) - 1], other[-1])
        if left > 0 or number < 0:
            return None
        for behind, many in enumerate(other):
            rest[at + behind] -= number * many
        found.append(number)
    if any([number != 0 for number in rest]):
        return None
    return found[::-1]


def cut_by_depths(counts, other):
    """Return the counts by depths, a bush's, whose product with other ones is the counts, None if there are none."""
    check_counts(counts)
    check_counts(other)
    if len(counts) < len(other):
        return None
    found = _divided(counts, other)
    if found is None or fewest_of_depths(found) is None:
        return None
    return tuple(found)


def _powers_of(number, times):
    """Return an integer multiplied so many times."""
    power = 1
    for _ in range(times):
        power *= number
    return power


def _whole_root(number, times):
    """Return the greatest integer of which so many, multiplied, are at most a number that is above 0."""
    low, high = 1, number + 1
    while high - low > 1:
        middle = (low + high) // 2
        if _powers_of(middle, times) <= number:
            low = middle
        else:
            high = middle
    return low


def _next_number(numbers, root, times):
    """Return the next number of a root, those of which from the greatest depth on are told, None if it is not whole.

    The numbers are those of the counts, from the greatest depth on, too.
    """
    # Let the root be R and the power P: then R times the slope of P is so many times
    # the slope of R times P, which tells each number of R by those ahead of it.
    size = len(root)
    total = sum([(size - (times + 1) * at) * number * numbers[size - at] for at, number in enumerate(root)])
    found, left = divmod(total, size * times * numbers[0])
    if left > 0:
        return None
    return found


def _root_from_behind(numbers, times):
    """Return the list of the only numbers, from the greatest depth on, that may be a root, None if there are none."""
    root = [_whole_root(numbers[0], times)]
    for _ in range((len(numbers) - 1) // times):
        number = _next_number(numbers, root, times)
        if number is None:
            return None
        root.append(number)
    return root


def depth_root(counts, times):
    """Return the tuple of integers of which so many, multiplied, are counts by depths, None if there is none."""
    check_counts(counts)
    check_number(times, 1, MOST_TIMES)
    if (len(counts) - 1) % times != 0:
        return None
    root = _root_from_behind(counts[::-1], times)
    if root is None:
        return None
    power = [1]
    for _ in range(times):
        power = product_of(power, root)
    if power != list(counts[::-1]):
        return None
    return tuple(root[::-1])


def tips_after(growth, years, more):
    """Return how many tips the bush of so many equal growths has so much deeper than its near depth."""
    check_bush(growth)
    check_number(years, 0, MOST_YEARS)
    check_number(more, 0, MOST_MORE)
    tips = [level.count(()) for level in levels_of(growth)]
    near = min([depth for depth, many in enumerate(tips) if many > 0])
    # What is deeper than that adds nothing to it.
    factor = tips[near:near + more + 1]
    power = [1]
    while years > 0:
        if years & 1:
            power = product_of(power, factor)[:more + 1]
        factor = product_of(factor, factor)[:more + 1]
        years >>= 1
    return sum(power[more:more + 1])

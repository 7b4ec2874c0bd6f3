"""Mixed bushes grown by one mixed growth for many years."""

from tipwoods.basics import check_number
from tipwoods.mixedbushes import check_change, check_mixed, check_sorts, sorts_and_roads, tips_by_sort

MOST_YEARS = 10 ** 30
MOST_MODULUS = 10 ** 9


def _ascending(sorts):
    """Return the ascending tuple of some sorts."""
    return tuple(sorted(set(sorts)))


def _lot_of(mixed):
    """Return the lot of a mixed bush."""
    return _ascending([sort for sort, _ in sorts_and_roads(mixed)])


def _lots(mixed, change):
    """Return the list of the lots of the years ahead of the first that has been there, and the lot that comes then."""
    lots = []
    lot = _lot_of(mixed)
    while lot not in lots:
        lots.append(lot)
        lot = _ascending([sort for growing in lot for sort in _lot_of(change[growing])])
    return lots, lot


def lots_of_years(sorts, mixed, change):
    """Return the list of the lots of years up to the first that has been there, and the year in which it was first."""
    check_sorts(sorts)
    check_mixed(sorts, mixed)
    check_change(sorts, change)
    lots, again = _lots(mixed, change)
    return lots, lots.index(again)


def first_unlike(sorts, mixed, change, mate, second):
    """Return the least number of years for which two mixed bushes, grown by two mixed growths, are unlike, or None."""
    check_sorts(sorts)
    check_mixed(sorts, mixed)
    check_change(sorts, change)
    check_mixed(sorts, mate)
    check_change(sorts, second)
    if mixed != mate:
        return 0
    lots, _ = _lots(mixed, change)
    # As long as both are equal, they have one lot, and are unlike a year later just by its sorts.
    for year, lot in enumerate(lots):
        if any([change[sort] != second[sort] for sort in lot]):
            return year + 1
    return None


def _multiplied(rows, mates, modulus):
    """Return the product of two lists of lists of integers, as rests by a modulus."""
    found = []
    for row in rows:
        sums = [0] * len(mates)
        for many, mate in zip(row, mates):
            for at, more in enumerate(mate):
                sums[at] = (sums[at] + many * more) % modulus
        found.append(sums)
    return found


def tips_in_year(sorts, mixed, change, years, modulus):
    """Return the tuple, for each sort, of the rest of how many tips a mixed bush has behind so many years."""
    check_sorts(sorts)
    check_mixed(sorts, mixed)
    check_change(sorts, change)
    check_number(years, 0, MOST_YEARS)
    check_number(modulus, 1, MOST_MODULUS)
    tips = [tips_by_sort(sorts, mixed)]
    growing = [tips_by_sort(sorts, growth) for growth in change]
    while years > 0:
        if years & 1:
            tips = _multiplied(tips, growing, modulus)
        growing = _multiplied(growing, growing, modulus)
        years >>= 1
    return tuple([many % modulus for many in tips[0]])


def undoing_change(sorts, change):
    """Return the mixed growth with which, behind another one, each mixed bush is what it was, None if there is none."""
    check_sorts(sorts)
    check_change(sorts, change)
    # No year takes a knot away, so that each sort must come of a tip alone.
    if not all([sort in change for sort in range(sorts)]):
        return None
    return tuple([change.index(sort) for sort in range(sorts)])

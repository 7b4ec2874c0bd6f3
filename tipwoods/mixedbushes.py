"""Mixed bushes, with several sorts of tips, and the rows by which they are grown."""

from tipwoods.basics import MOST_BRANCHES, MOST_DEPTH, MOST_GROWTHS, MOST_PARTS, check_number, is_letter, is_number
from tipwoods.errors import InvalidMixed, InvalidMixedRow, TooMany

MOST_SORTS = 4


def check_sorts(value):
    """Raise InvalidNumber unless a value is a number of sorts."""
    check_number(value, 1, MOST_SORTS)


def _has_form(part, sorts):
    """Return whether any value is a tip of one of so many sorts, or has a letter and as many items as a knot may."""
    if not isinstance(part, tuple):
        return is_number(part, 0, sorts - 1)
    return 2 <= len(part) <= MOST_BRANCHES + 1 and is_letter(part[0])


def is_mixed_bush(sorts, value):
    """Return whether any value is a mixed bush with so many sorts that can be handed in."""
    parts = 0
    level = [value]
    # Level by level, so that a value with ever so many parts is left early.
    for _ in range(MOST_DEPTH + 1):
        parts += len(level)
        if parts > MOST_PARTS or not all([_has_form(part, sorts) for part in level]):
            return False
        level = [branch for part in level if isinstance(part, tuple) for branch in part[1:]]
    return not level


def is_change(sorts, value):
    """Return whether any value is a mixed growth with so many sorts."""
    if not isinstance(value, tuple) or len(value) != sorts:
        return False
    return all([is_mixed_bush(sorts, growth) for growth in value])


def are_mixed_growths(sorts, value):
    """Return whether any value is a mixed row with so many sorts."""
    if not isinstance(value, tuple) or len(value) > MOST_GROWTHS:
        return False
    return all([is_change(sorts, change) for change in value])


def check_mixed(sorts, value):
    """Raise InvalidMixed unless a value is a mixed bush with so many sorts."""
    if not is_mixed_bush(sorts, value):
        raise InvalidMixed("no mixed bush that can be handed in")


def check_changes(sorts, value):
    """Raise InvalidMixedRow unless a value is a mixed row with so many sorts."""
    if not are_mixed_growths(sorts, value):
        raise InvalidMixedRow("no mixed row")


def check_change(sorts, value):
    """Raise InvalidMixedRow unless a value is a mixed growth with so many sorts."""
    if not is_change(sorts, value):
        raise InvalidMixedRow("no mixed growth")


def sorts_and_roads(mixed):
    """Return the list of the pairs of the sort of each tip and of the road to it, in the order of their numbers."""
    if not isinstance(mixed, tuple):
        return [(mixed, ())]
    found = []
    for index, branch in enumerate(mixed[1:]):
        found.extend([(sort, (index, *road)) for sort, road in sorts_and_roads(branch)])
    return found


def tips_by_sort(sorts, mixed):
    """Return the list, for each sort, of how many tips of it a mixed bush has."""
    found = [0] * sorts
    for sort, _ in sorts_and_roads(mixed):
        found[sort] += 1
    return found


def _count_parts(mixed):
    """Return how many parts a mixed bush has."""
    if not isinstance(mixed, tuple):
        return 1
    return 1 + sum([_count_parts(branch) for branch in mixed[1:]])


def _greatest_depths(sorts, mixed):
    """Return the list, for each sort, of the greatest depth of a tip of it in a mixed bush, -1 without one."""
    found = [-1] * sorts
    for sort, road in sorts_and_roads(mixed):
        found[sort] = max(found[sort], len(road))
    return found


def _tips_grown(tips, change):
    """Return what the list of the numbers of tips by sorts comes to by a mixed growth."""
    found = [0] * len(tips)
    for many, growth in zip(tips, change):
        for sort, more in enumerate(tips_by_sort(len(tips), growth)):
            found[sort] += many * more
    return found


def _depths_grown(depths, change):
    """Return what the list of the greatest depths of tips by sorts comes to by a mixed growth."""
    found = [-1] * len(depths)
    for depth, growth in zip(depths, change):
        for sort, more in enumerate(_greatest_depths(len(depths), growth)):
            if depth >= 0 and more >= 0:
                found[sort] = max(found[sort], depth + more)
    return found


def _check_room(sorts, mixed, changes):
    """Raise TooMany if a mixed bush, grown by a mixed row, can not be drawn behind some year."""
    # No year takes anything away, so that the last one tells of all.
    tips = tips_by_sort(sorts, mixed)
    depths = _greatest_depths(sorts, mixed)
    parts = _count_parts(mixed)
    for change in changes:
        parts += sum([many * (_count_parts(growth) - 1) for many, growth in zip(tips, change)])
        tips = _tips_grown(tips, change)
        depths = _depths_grown(depths, change)
    if parts > MOST_PARTS:
        raise TooMany(MOST_PARTS)
    if max(depths) > MOST_DEPTH:
        raise TooMany(MOST_DEPTH)


def _grown(mixed, change):
    """Return a mixed bush grown by a mixed growth."""
    if not isinstance(mixed, tuple):
        return change[mixed]
    return (mixed[0], *[_grown(branch, change) for branch in mixed[1:]])


def is_mixed(sorts, value):
    """Return whether any value is a mixed bush with so many sorts."""
    check_sorts(sorts)
    return is_mixed_bush(sorts, value)


def are_changes(sorts, value):
    """Return whether any value is a mixed row with so many sorts."""
    check_sorts(sorts)
    return are_mixed_growths(sorts, value)


def mixed_grown(sorts, mixed, changes):
    """Return a mixed bush grown by a mixed row."""
    check_sorts(sorts)
    check_mixed(sorts, mixed)
    check_changes(sorts, changes)
    _check_room(sorts, mixed, changes)
    for change in changes:
        mixed = _grown(mixed, change)
    return mixed


def mixed_tips(sorts, mixed, changes):
    """Return the tuple, for each sort, of how many tips of it a mixed bush grown by a mixed row has."""
    check_sorts(sorts)
    check_mixed(sorts, mixed)
    check_changes(sorts, changes)
    tips = tips_by_sort(sorts, mixed)
    for change in changes:
        tips = _tips_grown(tips, change)
    return tuple(tips)


def _tips_to_come(sorts, changes):
    """Return the list, for each year and at last for none, of how many tips come at last of a tip of each sort."""
    found = [[1] * sorts]
    for change in reversed(changes):
        later = found[-1]
        found.append([sum([later[sort] for sort, _ in sorts_and_roads(growth)]) for growth in change])
    return found[::-1]


def _tip_in_year(mixed, to_come, number):
    """Return the sort of, and the road to, the tip of a mixed bush of which comes the one with a number at last.

    Behind them stands the number that this one has among those which come of that tip.
    """
    tips = sorts_and_roads(mixed)
    at = 0
    while number >= to_come[tips[at][0]]:
        number -= to_come[tips[at][0]]
        at += 1
    return (*tips[at], number)


def mixed_tip(sorts, mixed, changes, number):
    """Return the sort of the tip with a number of a mixed bush grown by a mixed row, and the road to it."""
    check_sorts(sorts)
    check_mixed(sorts, mixed)
    check_changes(sorts, changes)
    to_come = _tips_to_come(sorts, changes)
    tips = sum([to_come[0][sort] for sort, _ in sorts_and_roads(mixed)])
    check_number(number, 0, tips - 1)
    sort, road, number = _tip_in_year(mixed, to_come[0], number)
    for change, later in zip(changes, to_come[1:]):
        sort, behind, number = _tip_in_year(change[sort], later, number)
        road = (*road, *behind)
    return sort, road

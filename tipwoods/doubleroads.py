"""Roads that are heard of two rows of one stock."""

from tipwoods.basics import number_part, way_back
from tipwoods.heardroads import check_stock


def _pairs_at(branches, roots):
    """Return the list of the pairs of parts with which two rows may go on where they have come to two parts.

    Parts are told by numbers, the tip by 0: behind a tip, any growth may be the
    next one. At most one of both parts is a tip.
    """
    part, mate = sorted(branches)
    if part > 0:
        return [(part, mate)]
    return [(min(root, mate), max(root, mate)) for root in roots]


def _steps_on(level, parts):
    """Return the ascending list of triples of an index, of a step, and of the parts to which it leads in both rows.

    The level is a dict with, for pairs of parts, the index of the road to them.
    """
    found = []
    for (number, mate), at in level.items():
        part, other = parts[number], parts[mate]
        if part[0] == other[0]:
            for index, branches in enumerate(zip(part[1:], other[1:])):
                found.append((at, (part[0], index), branches))
    return sorted(found)


def _double_road(stock):
    """Return the double road of a stock with the fewest steps, the first one of these, None if there is none."""
    numbers = {(): 0}
    roots = [number_part(growth, numbers) for growth in stock]
    parts = list(numbers)
    # The two rows of the least double road have unlike indices from the first one on.
    starts = [sorted([root, other]) for at, root in enumerate(roots) for other in roots[:at]]
    level = {(root, other): 0 for root, other in starts}
    seen = {pair: True for pair in level}
    steps = [None]
    while level:
        below = {}
        for at, step, branches in _steps_on(level, parts):
            if branches == (0, 0):
                return (*way_back(steps, at), step)
            if steps[-1] != (at, step):
                steps.append((at, step))
            for pair in _pairs_at(branches, roots):
                if pair not in seen:
                    seen[pair] = True
                    below[pair] = len(steps) - 1
        level = below
    return None


def each_road_tells(stock):
    """Return whether a stock has no double road."""
    check_stock(stock)
    return _double_road(stock) is None


def double_road(stock):
    """Return the double road of a stock with the fewest steps, the first one of these, None if there is none."""
    check_stock(stock)
    return _double_road(stock)

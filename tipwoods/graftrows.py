"""Rows of grafts beside each other: which do the same, which grafts are exchanged, or led past each other."""

from tipwoods.basics import MOST_BRANCHES, check_number
from tipwoods.grafts import check_grafts, count_tips, least_tips, lot_done


def _do_the_same(grafts, others):
    """Return whether two rows of grafts do the same to all bushes."""
    return least_tips(grafts) == least_tips(others) and lot_done(grafts) == lot_done(others)


def same_grafts(grafts, others):
    """Return whether two rows of grafts do the same to all bushes."""
    check_grafts(grafts)
    check_grafts(others)
    return _do_the_same(grafts, others)


def _bush_with_tips(many):
    """Return a bush of few knots with so many tips."""
    level = [()] * many
    while len(level) > 1:
        level = [("a", *level[at:at + MOST_BRANCHES]) for at in range(0, len(level), MOST_BRANCHES)]
    return level[0]


def apart_bush(grafts, others):
    """Return a bush which refuses just one of two rows, or comes to unlike bushes by them, None if there is none."""
    check_grafts(grafts)
    check_grafts(others)
    if _do_the_same(grafts, others):
        return None
    # With as many tips as the lesser need tells, it refuses just one of them, or takes both.
    return _bush_with_tips(min(least_tips(grafts), least_tips(others)))


def _neighbours(grafts, index):
    """Return the graft with an index, and the next one; raise InvalidNumber if there are no such ones."""
    check_number(index, 0, len(grafts) - 2)
    return grafts[index], grafts[index + 1]


def can_swap(grafts, index):
    """Return whether the graft with an index, and the next one, can be exchanged as they stand."""
    check_grafts(grafts)
    earlier, later = _neighbours(grafts, index)
    return _do_the_same((earlier, later), (later, earlier))


def _led(earlier, later):
    """Return two neighbouring grafts led past each other, None if the later one grows in the earlier one."""
    number, bush = earlier
    mate_number, mate = later
    tips = count_tips(bush)
    if mate_number < number:
        return later, (number + count_tips(mate) - 1, bush)
    if mate_number >= number + tips:
        return (mate_number - tips + 1, mate), earlier
    return None


def led_past(grafts, index):
    """Return the row in which a graft and the next one are led past each other, None if this one grows in it."""
    check_grafts(grafts)
    earlier, later = _neighbours(grafts, index)
    pair = _led(earlier, later)
    if pair is None:
        return None
    return (*grafts[:index], *pair, *grafts[index + 2:])

"""The last years of a bush: how often a growth was the last one, and what another one had grown."""

from tipwoods.basics import grow
from tipwoods.bushes import check_bush
from tipwoods.cuts import upper_of
from tipwoods.errors import NoKnot
from tipwoods.growing import check_room


def last_times(bush, growth):
    """Return the greatest number of times that a bush is some bush grown by a growth."""
    check_bush(bush)
    check_bush(growth)
    if not growth:
        raise NoKnot("the tip grows any number of times")
    times = 0
    upper = upper_of(bush, growth)
    while upper is not None:
        times += 1
        upper = upper_of(upper, growth)
    return times


def regrown(bush, growth, other):
    """Return what would have come of a bush by another last growth, None if this was not its last one."""
    check_bush(bush)
    check_bush(growth)
    check_bush(other)
    upper = upper_of(bush, growth)
    if upper is None:
        return None
    check_room(upper, (other,))
    return grow(upper, other)

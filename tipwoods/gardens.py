"""Logs of deeds, by which bushes are grown, mirrored, renamed and cut in turn."""

from tipwoods.basics import MOST_DEPTH, grow, is_letter, is_number
from tipwoods.bushes import check_bush, is_bush
from tipwoods.bushturns import mirror_of, renamed_by
from tipwoods.errors import InvalidLog
from tipwoods.growing import check_room

MOST_DEEDS = 20


def is_depth(value):
    """Return whether any value is a depth of a cut."""
    return is_number(value, 0, MOST_DEPTH)


def _is_deed(value):
    """Return whether any value is a deed."""
    if not isinstance(value, tuple) or len(value) == 0:
        return False
    if value[0] == "year":
        return len(value) == 2 and is_bush(value[1])
    if value[0] == "rename":
        return len(value) == 3 and is_letter(value[1]) and is_letter(value[2])
    if value[0] == "cut":
        return len(value) == 2 and is_depth(value[1])
    return value == ("mirror",)


def is_log(value):
    """Return whether any value is a log."""
    if not isinstance(value, tuple) or len(value) > MOST_DEEDS:
        return False
    return all([_is_deed(deed) for deed in value])


def check_log(value):
    """Raise InvalidLog unless a value is a log."""
    if not is_log(value):
        raise InvalidLog("no log")


def _cut_off(bush, depth):
    """Return a bush in which each part at a depth is the tip."""
    if not bush or depth == 0:
        return ()
    return (bush[0], *[_cut_off(branch, depth - 1) for branch in bush[1:]])


def do_deed(bush, deed):
    """Return what a bush is behind a deed; raise TooMany if it can not be drawn then."""
    if deed[0] == "year":
        check_room(bush, deed[1:])
        return grow(bush, deed[1])
    if deed[0] == "mirror":
        return mirror_of(bush)
    if deed[0] == "rename":
        return renamed_by(bush, {deed[1]: deed[2]})
    return _cut_off(bush, deed[1])


def tend(bush, log):
    """Return what a bush is when it has been tended by a log."""
    for deed in log:
        bush = do_deed(bush, deed)
    return bush


def tended(bush, log):
    """Return what a bush is when it has been tended by a log."""
    check_bush(bush)
    check_log(log)
    return tend(bush, log)


def tended_on(bush, log):
    """Return the list of a bush, and of what it is behind each deed of a log."""
    check_bush(bush)
    check_log(log)
    found = [bush]
    for deed in log:
        found.append(do_deed(found[-1], deed))
    return found

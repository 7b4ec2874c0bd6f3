"""Bushes grown by growths, and by rows of them, as far as they can be drawn."""

from tipwoods.basics import MOST_DEPTH, MOST_PARTS, counts_grown, grow
from tipwoods.bushes import check_bush, check_growths
from tipwoods.errors import TooMany


def check_room(bush, growths):
    """Raise TooMany if a bush, grown by a row, can not be drawn behind some year."""
    # No year takes anything away, so that the last one tells of all.
    knots, tips, _, height = counts_grown(bush, growths)
    if knots + tips > MOST_PARTS:
        raise TooMany(MOST_PARTS)
    if height > MOST_DEPTH:
        raise TooMany(MOST_DEPTH)


def _grown_years(bush, growths):
    """Return the list of a bush, and of what it comes to behind each year of a row."""
    check_room(bush, growths)
    years = [bush]
    for growth in growths:
        years.append(grow(years[-1], growth))
    return years


def grown(bush, growth):
    """Return the bush grown by a growth."""
    check_bush(bush)
    check_bush(growth)
    return _grown_years(bush, (growth,))[-1]


def grown_by(bush, growths):
    """Return the bush grown by a row of growths."""
    check_bush(bush)
    check_growths(growths)
    return _grown_years(bush, growths)[-1]


def grown_on(bush, growths):
    """Return the list of the bush, and of what it has come to behind each year."""
    check_bush(bush)
    check_growths(growths)
    return _grown_years(bush, growths)


def bush_of(growths):
    """Return the bush of a row of growths."""
    check_growths(growths)
    return _grown_years((), growths)[-1]

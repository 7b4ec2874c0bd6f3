"""The texts of bushes and of rows, written and read."""

from tipwoods.basics import MOST_BRANCHES, MOST_DEPTH, MOST_GROWTHS, MOST_PARTS, is_letter, text_of
from tipwoods.bushes import check_bush, check_growths
from tipwoods.errors import InvalidText


def bush_text(bush):
    """Return the text of a bush."""
    check_bush(bush)
    return text_of(bush)


def row_text(growths):
    """Return the text of a row of growths."""
    check_growths(growths)
    if not growths:
        return "-"
    return " ".join([text_of(growth) for growth in growths])


def _read_knot(text, at, depth, room):
    """Read a knot as _read_part does; its letter, which stands at the index, has been read."""
    if text[at + 1:at + 2] != "(":
        raise InvalidText(at + 1)
    knot = [text[at]]
    at += 2
    room -= 1
    while len(knot) == 1 or text[at:at + 1] != ")":
        if len(knot) > MOST_BRANCHES:
            raise InvalidText(at)
        branch, at, room = _read_part(text, at, depth + 1, room)
        knot.append(branch)
    return tuple(knot), at + 1, room


def _read_part(text, at, depth, room):
    """Return the part whose text begins at an index, the index behind it, and the room that is left.

    The room is how many parts the bush may still get. Behind the end of the
    text there is no sign, so that what ends too early is told by its length.
    """
    sign = text[at:at + 1]
    if sign == "." and room > 0:
        return (), at + 1, room - 1
    # A knot needs room for itself and for a tip, which is one deeper.
    if is_letter(sign) and room > 1 and depth < MOST_DEPTH:
        return _read_knot(text, at, depth, room)
    raise InvalidText(at)


def _read_growth(text, at):
    """Return the bush whose text begins at an index, and the index behind it."""
    bush, behind, _ = _read_part(text, at, 0, MOST_PARTS)
    return bush, behind


def read_bush(text):
    """Return the bush whose text a string is."""
    if not isinstance(text, str):
        raise InvalidText(0)
    bush, behind = _read_growth(text, 0)
    if behind < len(text):
        raise InvalidText(behind)
    return bush


def _read_growths(text):
    """Return the list of the bushes, one or more, at the beginning of a text, and the index behind them."""
    growth, behind = _read_growth(text, 0)
    growths = [growth]
    while text[behind:behind + 1] == " " and len(growths) < MOST_GROWTHS:
        growth, behind = _read_growth(text, behind + 1)
        growths.append(growth)
    return growths, behind


def read_row(text):
    """Return the row of growths whose text a string is."""
    if not isinstance(text, str):
        raise InvalidText(0)
    if text[:1] == "-":
        growths, behind = [], 1
    else:
        growths, behind = _read_growths(text)
    if behind < len(text):
        raise InvalidText(behind)
    return tuple(growths)

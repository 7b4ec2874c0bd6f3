"""How great the bush of a long row is: its depths, tips, knots and unlike parts."""

from tipwoods.basics import MOST_DIGITS, check_number, counts_of, least_too_long, number_part
from tipwoods.errors import TooMany
from tipwoods.longrows import check_long

MOST_MODULUS = 10 ** 9


def long_depths(long):
    """Return the near depth and the height of the bush of a long row."""
    check_long(long)
    near = 0
    height = 0
    for growth, years in long:
        _, _, more_near, more_height = counts_of(growth)
        near += years * more_near
        height += years * more_height
    return near, height


def _counts_joined(counts, mates, modulus):
    """Return the rests of knots and tips of what has the first counts, grown by what has the other ones."""
    knots, tips = counts
    more_knots, more_tips = mates
    return (knots + tips * more_knots) % modulus, tips * more_tips % modulus


def _counts_of_years(growth, years, modulus):
    """Return the rests of how many knots and tips the tip has, grown so many times by a growth."""
    found = (0, 1)
    knots, tips, _, _ = counts_of(growth)
    many = (knots, tips)
    # What is joined is 1, 2, 4, 8 .. years, those of which the number of years is the sum.
    while years > 0:
        if years % 2 == 1:
            found = _counts_joined(found, many, modulus)
        many = _counts_joined(many, many, modulus)
        years //= 2
    return found


def _counts_modulo(long, modulus):
    """Return the rests of how many knots and tips the bush of a long row has."""
    found = (0, 1 % modulus)
    for growth, years in long:
        found = _counts_joined(found, _counts_of_years(growth, years, modulus), modulus)
    return found


def tips_modulo(long, number):
    """Return the rest of how many tips the bush of a long row has, divided by a number."""
    check_long(long)
    check_number(number, 1, MOST_MODULUS)
    return _counts_modulo(long, number)[1]


def knots_modulo(long, number):
    """Return the rest of how many knots the bush of a long row has, divided by a number."""
    check_long(long)
    check_number(number, 1, MOST_MODULUS)
    return _counts_modulo(long, number)[0]


def tips_whole(long):
    """Return how many tips the bush of a long row has."""
    check_long(long)
    limit = least_too_long()
    tips = 1
    for growth, years in long:
        more_tips = counts_of(growth)[1]
        # With two tips or more, the limit ends this behind some thousands of years.
        while years > 0 and more_tips > 1:
            years -= 1
            tips *= more_tips
            if tips >= limit:
                raise TooMany(MOST_DIGITS)
    return tips


def _count_knots_unlike(growth):
    """Return how many parts of a growth, equal ones counted once, are knots."""
    numbers = {}
    number_part(growth, numbers)
    return len(numbers) - 1


def unlike_parts(long):
    """Return how many bushes, equal ones counted once, are parts of the bush of a long row."""
    check_long(long)
    # A part that begins in a year has fewer tips, or knots, than any that begins
    # in an earlier one: so no part is counted for two years.
    return 1 + sum([years * _count_knots_unlike(growth) for growth, years in long])

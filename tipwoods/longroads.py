"""Roads in the bush of a long row: the spots at them, and the least one at which two such bushes are unlike."""

from tipwoods.basics import are_unlike_roots, is_number, number_part
from tipwoods.errors import InvalidRoad, TooMany
from tipwoods.longrows import check_long, long_alike, pairs_with_years

MOST_INDICES = 1000
MOST_SPOTS = 1000


def _growth_in(pairs, year, end):
    """Return the growth of the year with a number, the end behind the last year."""
    for growth, years in pairs:
        if year < years:
            return growth
        year -= years
    return end


def spot_at(long, road):
    """Return the spot at a road in the bush of a long row."""
    check_long(long)
    if not isinstance(road, tuple) or len(road) > MOST_INDICES:
        raise InvalidRoad("a road is a tuple of at most 1000 indices")
    pairs = pairs_with_years(long)
    year = 0
    part = _growth_in(pairs, year, ())
    for index in road:
        if not is_number(index, 0, len(part) - 2):
            raise InvalidRoad("no index of a branch")
        part = part[index + 1]
        if not part:
            year += 1
            part = _growth_in(pairs, year, ())
    return year, part


def _numbered_pairs(long, numbers):
    """Return the pairs that have years, with the numbers of their growths instead of these."""
    return [(number_part(growth, numbers), years) for growth, years in pairs_with_years(long)]


def _spots_behind(pairs, spot, parts):
    """Return the list of the spots to which the indices of branches lead from a spot.

    Parts are told by numbers, the tip by 0; the list of parts tells of each
    number which numbers stand behind the letter of its part.
    """
    year, number = spot
    found = []
    for branch in parts[number][1:]:
        if branch == 0:
            found.append((year + 1, _growth_in(pairs, year + 1, 0)))
        else:
            found.append((year, branch))
    return found


def _next_level(level, rows, parts, seen):
    """Return the list of roads, and spots in both bushes, one index behind a level, that have not been seen.

    Spots that have been seen at a lesser road lead to nothing that is less than
    what comes from there. Those that are new are noted as seen.
    """
    first, second = rows
    found = []
    for road, spot, mate in level:
        branches = list(zip(_spots_behind(first, spot, parts), _spots_behind(second, mate, parts)))
        for index, spots in enumerate(branches):
            if spots not in seen:
                seen[spots] = True
                found.append(((*road, index), *spots))
    return found


def unlike_way(long, beside):
    """Return the least road at which the bushes of two long rows are unlike, None if they are alike."""
    if long_alike(long, beside):
        return None
    numbers = {(): 0}
    rows = (_numbered_pairs(long, numbers), _numbered_pairs(beside, numbers))
    parts = list(numbers)
    spots = ((0, _growth_in(rows[0], 0, 0)), (0, _growth_in(rows[1], 0, 0)))
    seen = {spots: True}
    level = [((), *spots)]
    while len(seen) <= MOST_SPOTS:
        for road, spot, mate in level:
            if are_unlike_roots(parts[spot[1]], parts[mate[1]]):
                return road
        level = _next_level(level, rows, parts, seen)
    raise TooMany(MOST_SPOTS)

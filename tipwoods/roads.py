"""Roads in bushes: to parts, to tips, and to where two bushes are unlike."""

from tipwoods.basics import are_unlike_roots, check_number, is_number, roads_and_parts
from tipwoods.bushes import check_bush
from tipwoods.errors import InvalidRoad


def part_on_road(bush, road):
    """Return the part to which a road leads; raise InvalidRoad for what is no road in the bush."""
    if not isinstance(road, tuple):
        raise InvalidRoad("a road is a tuple")
    part = bush
    for index in road:
        if not is_number(index, 0, len(part) - 2):
            raise InvalidRoad("no index of a branch")
        part = part[index + 1]
    return part


def roads_to_tips(bush):
    """Return the list of the roads to all tips, in the order of their numbers."""
    return sorted([road for road, part in roads_and_parts(bush) if not part])


def least_road_where(differ, bush, other):
    """Return the least road at which a function is true of the parts of two bushes, None if there is none.

    It is true where both parts are knots with unlike numbers of branches.
    """
    level = [((), bush, other)]
    while level:
        below = []
        for road, part, mate in level:
            if differ(part, mate):
                return road
            for index, branches in enumerate(zip(part[1:], mate[1:])):
                below.append(((*road, index), *branches))
        level = below
    return None


def part_at(bush, road):
    """Return the part to which a road leads."""
    check_bush(bush)
    return part_on_road(bush, road)


def tip_roads(bush):
    """Return the list of the roads to all tips, in the order of their numbers."""
    check_bush(bush)
    return roads_to_tips(bush)


def tip_road(bush, number):
    """Return the road to the tip with a number."""
    check_bush(bush)
    roads = roads_to_tips(bush)
    check_number(number, 0, len(roads) - 1)
    return roads[number]


def tip_number(bush, road):
    """Return the number of the tip to which a road leads, None if it leads to a knot."""
    check_bush(bush)
    if part_on_road(bush, road):
        return None
    return roads_to_tips(bush).index(road)


def unlike_road(bush, other):
    """Return the least road at which two bushes are unlike, None if they are equal."""
    check_bush(bush)
    check_bush(other)
    return least_road_where(are_unlike_roots, bush, other)

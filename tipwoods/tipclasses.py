"""The classes of tips that can not be told apart without the order of branches."""

from tipwoods.bushes import check_bush, check_growths
from tipwoods.errors import TooMany
from tipwoods.forms import parts_and_forms

MOST_SIZES = 200


def _ways_from(number, parts, form_numbers):
    """Return the list, for each tip of the part with a number, of the tuple of the forms' numbers on its road."""
    form = form_numbers[number]
    if not parts[number]:
        return [(form,)]
    return [(form, *way) for branch in parts[number][1:] for way in _ways_from(branch, parts, form_numbers)]


def _classes_of(bush):
    """Return the list of the classes of tips of a bush, in the order of their first tips."""
    parts, form_numbers, _ = parts_and_forms(bush)
    classes = {}
    for tip, way in enumerate(_ways_from(len(parts) - 1, parts, form_numbers)):
        classes.setdefault(way, []).append(tip)
    return [tuple(tips) for tips in classes.values()]


def tip_classes(bush):
    """Return the ascending list of the classes of tips of a bush."""
    check_bush(bush)
    return sorted(_classes_of(bush))


def _sizes_grown(sizes, growth):
    """Return a dict of how many classes of each size there are if each tip of those that are told brings a growth."""
    more_sizes = [len(tips) for tips in _classes_of(growth)]
    found = {}
    for size in sizes:
        for more in more_sizes:
            found[size * more] = found.get(size * more, 0) + sizes[size]
    return found


def class_sizes(growths):
    """Return the ascending tuple of pairs of a size and of how many classes of tips of it the bush of a row has."""
    check_growths(growths)
    sizes = {1: 1}
    for growth in growths:
        sizes = _sizes_grown(sizes, growth)
        # No later year makes these fewer.
        if len(sizes) > MOST_SIZES:
            raise TooMany(MOST_SIZES)
    return tuple(sorted(sizes.items()))

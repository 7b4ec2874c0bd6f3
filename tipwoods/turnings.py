"""Rows that are their own mirrors, and the fewest turns by which a bush comes to another one."""

from tipwoods.basics import number_part
from tipwoods.bushes import check_bush, check_growths
from tipwoods.bushturns import mirror_of
from tipwoods.forms import numbered_forms


def own_mirror_row(growths):
    """Return whether the bush of a row is its own mirror."""
    check_growths(growths)
    return all([growth == mirror_of(growth) for growth in growths])


def _least_turns(branches, mates, turns):
    """Return the fewest turns by which the branches of a knot come to those of another one.

    The dict of turns has, for each branch and each one to which it can come, the
    turns within it.
    """
    # For each tuple of places that the first branches have taken, the fewest turns.
    least = {(): 0}
    for branch in branches:
        longer = {}
        for taken, many in least.items():
            for place, mate in enumerate(mates):
                if place not in taken and (branch, mate) in turns:
                    # It is led past all those of the first branches that stand behind its place.
                    passed = len([other for other in taken if other > place])
                    found = many + passed + turns[(branch, mate)]
                    key = tuple(sorted([*taken, place]))
                    longer[key] = min(found, longer.get(key, found))
        least = longer
    return min(list(least.values()))


def _turns_between(part, mate, wood, known):
    """Return the fewest turns by which a part comes to one of the same form; both are told by numbers.

    The wood is the pair of the list of all parts, and of the list of the numbers of their forms.
    """
    if part == mate:
        return 0
    if (part, mate) not in known:
        parts, form_numbers = wood
        turns = {}
        for branch in parts[part][1:]:
            for other in parts[mate][1:]:
                if form_numbers[branch] == form_numbers[other]:
                    turns[(branch, other)] = _turns_between(branch, other, wood, known)
        known[(part, mate)] = _least_turns(parts[part][1:], parts[mate][1:], turns)
    return known[(part, mate)]


def fewest_turns(bush, other):
    """Return the fewest turns by which a bush comes to the other one, None if it does by none."""
    check_bush(bush)
    check_bush(other)
    numbers = {}
    part = number_part(bush, numbers)
    mate = number_part(other, numbers)
    parts = list(numbers)
    form_numbers, _ = numbered_forms(parts)
    if form_numbers[part] != form_numbers[mate]:
        return None
    return _turns_between(part, mate, (parts, form_numbers), {})

"""What the other modules share: limits, letters, numbers, and walks over bushes.

Nothing here checks a bush: whoever calls has done so.
"""

from tipwoods.errors import InvalidNumber

ALPHABET = "abcdefghijklmnopqrstuvwxyz"
MOST_BRANCHES = 6
MOST_PARTS = 400
MOST_DEPTH = 60
MOST_GROWTHS = 12
MOST_DIGITS = 4000


def is_letter(value):
    """Return whether any value is one of "a" to "z"."""
    return isinstance(value, str) and len(value) == 1 and "a" <= value <= "z"


def is_number(value, least, greatest):
    """Return whether any value is an integer from the least to the greatest one."""
    if isinstance(value, bool) or not isinstance(value, int):
        return False
    return least <= value <= greatest


def check_number(value, least, greatest):
    """Raise InvalidNumber unless a value is an integer from the least to the greatest one."""
    if not is_number(value, least, greatest):
        raise InvalidNumber("no integer that is let here")


def levels_of(bush):
    """Return the list of the lists of all parts at each depth, from the left."""
    levels = []
    level = [bush]
    while level:
        levels.append(level)
        level = [branch for part in level for branch in part[1:]]
    return levels


def parts_of(bush):
    """Return the list of all parts, in the order of their roads, lesser ones first."""
    return [part for level in levels_of(bush) for part in level]


def roads_and_parts(bush):
    """Return the list of the pairs of each road and its part, lesser roads first."""
    found = []
    level = [((), bush)]
    while level:
        found.extend(level)
        level = [((*road, index), branch) for road, part in level for index, branch in enumerate(part[1:])]
    return found


def counts_of(bush):
    """Return how many knots and how many tips a bush has, its near depth and its height."""
    levels = levels_of(bush)
    tips = [level.count(()) for level in levels]
    parts = sum([len(level) for level in levels])
    near = min([depth for depth, many in enumerate(tips) if many > 0])
    return parts - sum(tips), sum(tips), near, len(levels) - 1


def counts_grown(bush, growths):
    """Return the counts of a bush grown by a row, without drawing it."""
    knots, tips, near, height = counts_of(bush)
    for growth in growths:
        more_knots, more_tips, more_near, more_height = counts_of(growth)
        knots += tips * more_knots
        tips *= more_tips
        near += more_near
        height += more_height
    return knots, tips, near, height


def are_unlike_roots(part, mate):
    """Return whether two parts are unlike at their own roots, whatever their branches are."""
    return part[:1] != mate[:1] or len(part) != len(mate)


def text_of(bush):
    """Return the text of a bush.

    A bush may be nested too deep for the key of a dict: its text stands for it
    there, and is in the same order as it.
    """
    if not bush:
        return "."
    branches = [text_of(branch) for branch in bush[1:]]
    return bush[0] + "(" + "".join(branches) + ")"


def parts_in_text(text):
    """Return how many parts the bush with a text has."""
    return text.count("(") + text.count(".")


def grow(bush, growth):
    """Return a bush grown by a growth, however many parts that has."""
    if not bush:
        return growth
    branches = [grow(branch, growth) for branch in bush[1:]]
    return (bush[0], *branches)


def grow_row(growths):
    """Return what comes of the tip if it is grown by a row, however many parts that has."""
    bush = ()
    for growth in growths:
        bush = grow(bush, growth)
    return bush


def number_part(part, numbers):
    """Return the number that a dict has for a part, equal parts having the same one.

    A part that the dict does not have yet gets the next number, behind those of
    its branches. Its key is the letter and the numbers of the branches, so that
    keys are flat, however deep a part is nested; the keys in their order tell
    what stands behind each number.
    """
    key = ()
    if part:
        key = (part[0], *[number_part(branch, numbers) for branch in part[1:]])
    return numbers.setdefault(key, len(numbers))


def way_back(steps, at):
    """Return the tuple of the steps that lead to an index of a list, from the index 0 on.

    The list has, at each index but 0, the index from which a step leads there, and this step.
    """
    found = []
    while at > 0:
        at, step = steps[at]
        found.append(step)
    return tuple(reversed(found))


def least_too_long():
    """Return the least integer that has more than 4000 digits."""
    number = 1
    # By fifty digits at once, as this is asked for often.
    for _ in range(MOST_DIGITS // 50):
        number *= 10 ** 50
    return number

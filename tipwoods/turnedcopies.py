"""The turned copies of a bush: how many, which, and how many of them are less than it."""

from math import factorial

from tipwoods.basics import check_number, counts_of
from tipwoods.bushes import check_bush, check_growths
from tipwoods.errors import TooMany
from tipwoods.forms import parts_and_forms

MOST_COPIES = 500
MOST_MODULUS = 10 ** 9


def _unlike(branches):
    """Return the list of some numbers, equal ones once."""
    return [branch for at, branch in enumerate(branches) if branch not in branches[:at]]


def _count_rows(branches, counts):
    """Return how many rows of bushes some branches, turned in all ways, and in all orders, make.

    The branches are numbers of forms; the counts tell how many turned copies each form has.
    """
    found = factorial(len(branches))
    for branch in _unlike(branches):
        found //= factorial(branches.count(branch))
    for branch in branches:
        found *= counts[branch]
    return found


def _counts_of_copies(forms):
    """Return the list of how many turned copies forms have, each of which stands behind its branches."""
    counts = []
    for form in forms:
        counts.append(_count_rows(form[1:], counts))
    return counts


def _count_copies(bush):
    """Return how many turned copies a bush has."""
    _, _, forms = parts_and_forms(bush)
    return _counts_of_copies(forms)[-1]


def count_copies(bush):
    """Return how many turned copies a bush has."""
    check_bush(bush)
    return _count_copies(bush)


def _orders(branches):
    """Return the list of all orders of a tuple of numbers."""
    if not branches:
        return [()]
    found = []
    for branch in _unlike(branches):
        at = branches.index(branch)
        found.extend([(branch, *order) for order in _orders(branches[:at] + branches[at + 1:])])
    return found


def _copies_of(form, copies):
    """Return the list of the turned copies of a form, by the list of those of all forms ahead of it."""
    if not form:
        return [()]
    found = []
    for order in _orders(form[1:]):
        rows = [form[:1]]
        for branch in order:
            rows = [(*row, copy) for row in rows for copy in copies[branch]]
        found.extend(rows)
    return found


def all_copies(bush):
    """Return the ascending list of all turned copies of a bush."""
    check_bush(bush)
    _, _, forms = parts_and_forms(bush)
    if _counts_of_copies(forms)[-1] > MOST_COPIES:
        raise TooMany(MOST_COPIES)
    copies = []
    for form in forms:
        copies.append(_copies_of(form, copies))
    return sorted(copies[-1])


class Ranks:
    """For the parts of a bush: how many turned copies of the form of one are less than another one.

    Parts and forms are told by their numbers; what is known is kept, as the same
    two are asked for again and again.
    """

    def __init__(self, bush):
        parts, form_numbers, forms = parts_and_forms(bush)
        self.parts = parts
        self.form_numbers = form_numbers
        self.forms = forms
        self.counts = _counts_of_copies(forms)
        self.known = {}

    def lesser(self, number, place):
        """Return how many turned copies of the form with a number are less than the part with a number."""
        if (number, place) not in self.known:
            form = self.forms[number]
            part = self.parts[place]
            if form[:1] == part[:1]:
                self.known[(number, place)] = self.lesser_rows(form[1:], part[1:])
            else:
                # The tip goes ahead of all knots, and then the letter tells.
                self.known[(number, place)] = self.counts[number] if form[:1] < part[:1] else 0
        return self.known[(number, place)]

    def lesser_rows(self, branches, places):
        """Return how many rows of turned copies of some branches, in all orders, are less than the parts at places."""
        found = 0
        for place in places:
            if not branches:
                # One row is told to its end here, and is the beginning of the other one.
                return found + 1
            for branch in _unlike(branches):
                rest = _without(branches, branch)
                found += self.lesser(branch, place) * _count_rows(rest, self.counts)
            if self.form_numbers[place] not in branches:
                return found
            branches = _without(branches, self.form_numbers[place])
        return found


def _without(branches, branch):
    """Return some numbers without the first one that is equal to one."""
    at = branches.index(branch)
    return branches[:at] + branches[at + 1:]


def copy_number(bush):
    """Return how many turned copies of a bush are less than it."""
    check_bush(bush)
    ranks = Ranks(bush)
    return ranks.lesser(len(ranks.forms) - 1, len(ranks.parts) - 1)


def _power_modulo(number, times, modulus):
    """Return the rest of a number multiplied with itself so many times."""
    found = 1
    while times > 0:
        if times % 2 == 1:
            found = found * number % modulus
        number = number * number % modulus
        times //= 2
    return found


def row_copies(growths, modulus):
    """Return the rest of the number of turned copies of the bush of a row."""
    check_growths(growths)
    check_number(modulus, 2, MOST_MODULUS)
    found = 1
    tips = 1
    for growth in growths:
        # Each tip of what has grown so far brings a copy of the growth of its own.
        found = found * _power_modulo(_count_copies(growth), tips, modulus) % modulus
        tips *= counts_of(growth)[1]
    return found

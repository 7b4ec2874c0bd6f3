"""Bushes without the order of branches: their forms, and where two have unlike ones."""

from tipwoods.basics import number_part, parts_in_text, parts_of, text_of
from tipwoods.bushes import check_bush


def sorted_form(bush):
    """Return the form of a bush."""
    if not bush:
        return bush
    branches = sorted([sorted_form(branch) for branch in bush[1:]])
    return (bush[0], *branches)


def numbered_forms(parts):
    """Return the list of the numbers of the forms of parts, and the list of these forms.

    Parts and forms are told by their letters and the numbers of their branches,
    as number_part has them, each one behind its branches; those of a form are in
    ascending order of the numbers.
    """
    numbers = {}
    found = []
    for part in parts:
        form = (*part[:1], *sorted([found[branch] for branch in part[1:]]))
        found.append(numbers.setdefault(form, len(numbers)))
    return found, list(numbers)


def parts_and_forms(bush):
    """Return the list of the parts of a bush, itself the last one, and what numbered_forms tells of them."""
    numbers = {}
    number_part(bush, numbers)
    parts = list(numbers)
    found, forms = numbered_forms(parts)
    return parts, found, forms


def form_of(bush):
    """Return the form of a bush."""
    check_bush(bush)
    return sorted_form(bush)


def alike_without_order(bush, other):
    """Return whether two bushes have one form."""
    check_bush(bush)
    check_bush(other)
    return sorted_form(bush) == sorted_form(other)


def _forms_by_text(bush):
    """Return a dict with, for the text of each form of a part, the list of all such forms."""
    found = {}
    # The parts of the form are the forms of the parts.
    for form in parts_of(sorted_form(bush)):
        found.setdefault(text_of(form), []).append(form)
    return found


def unlike_form(bush, other):
    """Return the first form that is that of unlike numbers of parts of two bushes, and these, None if there is none."""
    check_bush(bush)
    check_bush(other)
    forms = _forms_by_text(bush)
    mates = _forms_by_text(other)
    unlike = [text for text in list(forms) + list(mates) if len(forms.get(text, [])) != len(mates.get(text, []))]
    if not unlike:
        return None
    _, first = min([(parts_in_text(text), text) for text in unlike])
    found = forms.get(first, [])
    others = mates.get(first, [])
    return (found + others)[0], len(found), len(others)

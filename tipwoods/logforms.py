"""The forms of logs, which tell whether two logs do the same to all bushes."""

from tipwoods.basics import ALPHABET
from tipwoods.gardens import check_log, tend


def _deeds_at(log, depth):
    """Return the log that does to a tip by itself what a log does to it at a depth."""
    found = []
    for deed in log:
        if deed[0] == "cut":
            deed = ("cut", max(0, deed[1] - depth))
        found.append(deed)
    return found


def _new_letters(log):
    """Return the ascending tuple of the pairs of a letter, and of the other one that a log makes of it."""
    letters = {letter: letter for letter in ALPHABET}
    for deed in log:
        if deed[0] == "rename":
            for letter in ALPHABET:
                if letters[letter] == deed[1]:
                    letters[letter] = deed[2]
    return tuple([(letter, other) for letter, other in letters.items() if letter != other])


def _form(log):
    """Return the form of a log."""
    cuts = [deed[1] for deed in log if deed[0] == "cut"]
    least = min(cuts) if cuts else None
    fresh = tuple([tend((), _deeds_at(log, depth)) for depth in range((least or 0) + 1)])
    mirrored = len([deed for deed in log if deed[0] == "mirror"]) & 1 == 1
    letters = _new_letters(log)
    # Of what stood ahead of the log, nothing is left with the least depth 0, and at most
    # one knot with 1, which all mirrors leave as it is.
    if least == 0:
        return least, False, (), fresh
    if least == 1:
        return least, False, letters, fresh
    return least, mirrored, letters, fresh


def log_form(log):
    """Return the form of a log."""
    check_log(log)
    return _form(log)


def are_like_logs(log, other_log):
    """Return whether two logs have the same form."""
    check_log(log)
    check_log(other_log)
    return _form(log) == _form(other_log)

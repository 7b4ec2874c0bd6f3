"""Gardeners, who tend a bush deed by deed, and can take deeds back."""

from tipwoods.basics import is_letter
from tipwoods.bushes import check_bush
from tipwoods.errors import InvalidDepth, InvalidLetter, NothingToRedo, NothingToUndo, TooMany
from tipwoods.gardens import MOST_DEEDS, do_deed, is_depth


def _check_letter(value):
    """Raise InvalidLetter unless a value is a letter."""
    if not is_letter(value):
        raise InvalidLetter("no letter")


class Gardener:
    """A bush with the log by which it is tended."""

    def __init__(self, bush):
        check_bush(bush)
        # All of these are tuples, which are replaced but never changed, so that an attempt
        # can put back what was there. Each deed that was taken back stands with what the
        # bush was behind it, the one that was taken back last behind the other ones.
        self._first = bush
        self._log = ()
        self._standings = (bush,)
        self._taken_back = ()

    def __eq__(self, other):
        return isinstance(other, Gardener) and self._first == other._first and self._log == other._log

    def __len__(self):
        return len(self._log)

    @property
    def log(self):
        """Return the log."""
        return self._log

    @property
    def standing(self):
        """Return what the bush is behind the log."""
        return self._standings[-1]

    def _do(self, deed):
        """Do a deed more, the arguments of which are right."""
        if len(self._log) >= MOST_DEEDS:
            raise TooMany(MOST_DEEDS)
        found = do_deed(self._standings[-1], deed)
        self._log = (*self._log, deed)
        self._standings = (*self._standings, found)
        self._taken_back = ()

    def year(self, growth):
        """Grow the bush by a growth."""
        check_bush(growth)
        self._do(("year", growth))

    def mirror(self):
        """Mirror the bush."""
        self._do(("mirror",))

    def rename(self, letter, other_letter):
        """Give all knots with a letter another one."""
        _check_letter(letter)
        _check_letter(other_letter)
        self._do(("rename", letter, other_letter))

    def cut(self, depth):
        """Make each part at a depth the tip."""
        if not is_depth(depth):
            raise InvalidDepth("no depth from 0 to 60")
        self._do(("cut", depth))

    def undo(self):
        """Take back the last deed that is not taken back yet."""
        if len(self._log) == 0:
            raise NothingToUndo("there is no deed")
        self._taken_back = (*self._taken_back, (self._log[-1], self._standings[-1]))
        self._log = self._log[:-1]
        self._standings = self._standings[:-1]

    def redo(self):
        """Do again the last deed that was taken back and is not done again yet."""
        if len(self._taken_back) == 0:
            raise NothingToRedo("no deed was taken back last")
        deed, standing = self._taken_back[-1]
        self._log = (*self._log, deed)
        self._standings = (*self._standings, standing)
        self._taken_back = self._taken_back[:-1]

    def attempt(self, action):
        """Call a function with the gardener, and return what it returns; if it fails, put all back."""
        log = self._log
        standings = self._standings
        taken_back = self._taken_back
        done = None
        try:
            found = action(self)
            done = True
            return found
        finally:
            if done is None:
                self._log = log
                self._standings = standings
                self._taken_back = taken_back

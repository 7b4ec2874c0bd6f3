"""The errors that the package raises."""


class BushError(ValueError):
    """The base class of all errors of this package."""


class InvalidBush(BushError):
    """A value is no bush that can be handed in."""


class InvalidGrowths(BushError):
    """A value is no row of growths."""


class InvalidRoad(BushError):
    """A value is no road in the bush."""


class InvalidNumber(BushError):
    """A value is no integer, or not one of those that are let."""


class TooMany(BushError):
    """There would be more of something than the limit."""

    def __init__(self, limit):
        super().__init__(f"more than {limit}")
        self.limit = limit


class InvalidNames(BushError):
    """A value is no string of all 26 letters, each once."""


class InvalidText(BushError):
    """A value is no text, which is told at an index."""

    def __init__(self, at):
        super().__init__(f"no text goes on so at {at}")
        self.at = at


class InvalidStore(BushError):
    """A value is no store."""


class NoKnot(BushError):
    """A bush is the tip where it must not be."""


class InvalidLongRow(BushError):
    """A value is no long row."""


class InvalidRuns(BushError):
    """A value is not the runs of the road to a tip."""


class InvalidBunch(BushError):
    """A value is no bunch."""


class InvalidCounts(BushError):
    """A value is no counts by depths."""


class InvalidWords(BushError):
    """A value is no counts by words."""


class InvalidGrafts(BushError):
    """A value is no row of grafts."""


class InvalidMixed(BushError):
    """A value is no mixed bush with so many sorts."""


class InvalidMixedRow(BushError):
    """A value is no mixed row, or no mixed growth, with so many sorts."""


class InvalidStock(BushError):
    """A value is no stock."""


class InvalidHeard(BushError):
    """A value is no heard road."""


class InvalidLog(BushError):
    """A value is no log."""


class InvalidLetter(BushError):
    """A value is no letter."""


class InvalidDepth(BushError):
    """A value is no depth."""


class NothingToUndo(BushError):
    """There is no deed that can be taken back."""


class NothingToRedo(BushError):
    """There is no deed that can be done again."""

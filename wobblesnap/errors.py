"""The errors of the package: DrawError, and one directly below it for each kind of failure."""


class DrawError(ValueError):
    """Anything that the package refuses; value is what it was created with."""

    def __init__(self, value):
        self.value = value


class BadBounds(DrawError):
    """What should be a tuple of bounds is none."""


class BadTerm(DrawError):
    """What should be a term, or another term, is none."""


class Contrary(DrawError):
    """A ring of these bounds has a sum below 0."""


class BadBook(DrawError):
    """The line of a book with this number (0: no string at all) cannot stand there."""


class NoRule(DrawError):
    """A book has no rule of this word."""


class BadPlan(DrawError):
    """The line of a plan with this number (0: no string at all) cannot stand there."""


class NoPoint(DrawError):
    """There is no point of this name."""


class BadNumber(DrawError):
    """What should be an integer from 0 to 99 is none."""


class BadHands(DrawError):
    """What should be a place for each point is not."""


class BadWish(DrawError):
    """What should be a wish is none."""


class BadWishes(DrawError):
    """What should be one to three wishes is not."""


class TooMany(DrawError):
    """There are more cases, or standings, than this number."""


class NoAxis(DrawError):
    """What should be an axis is none."""


class BadDrawing(DrawError):
    """What should be the places of a drawing is not."""


class BadBay(DrawError):
    """The line of a bay with this number (0: no string at all) cannot stand there."""


class NoGrid(DrawError):
    """This book has a grid, where none may be."""


class BadStanding(DrawError):
    """What should be a standing is none."""


class BadOffers(DrawError):
    """What should be offers is not."""


class BadName(DrawError):
    """What should be a name is none."""


class Taken(DrawError):
    """There is a point of this name already."""


class BadPlace(DrawError):
    """What should be a place to click at is none."""


class Full(DrawError):
    """There are as many as this number already."""


class NothingToUndo(DrawError):
    """No deed stands."""


class NothingToRedo(DrawError):
    """No deed was taken back last."""


class NoTrial(DrawError):
    """No trial is under way."""


class BadJournal(DrawError):
    """The line of a journal with this number (0: no tuple at all) cannot be done."""


class BadSay(DrawError):
    """What was said to a desk has none of its forms."""

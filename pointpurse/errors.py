"""The refusals, one class each."""


class PurseError(ValueError):
    """What all refusals have in common."""


class BadHouse(PurseError):
    """A house's field is not as it must be."""


class BadDeed(PurseError):
    """This is no deed, or none that the book allows."""


class BadBook(PurseError):
    """A book's houses, purses or rates don't fit together."""


class Twice(PurseError):
    """A deed's ref was told, or its buy was taken back."""


class NoDeed(PurseError):
    """No deed, source or debt is known by this name."""


class WrongDay(PurseError):
    """A deed's day, or the day of its telling, is out of order."""


class NoRate(PurseError):
    """The book tells no rate between these two houses."""


class TooFew(PurseError):
    """A purse has fewer points than the deed tells."""


class NotOver(PurseError):
    """Something may still be told on that day."""


class BadText(PurseError):
    """A session's line is of no form; line is its number from 1."""

    def __init__(self, line):
        # The number is kept in its field alone: words had best be without numbers.
        PurseError.__init__(self, "a line is of no form that is known")
        self.line = line

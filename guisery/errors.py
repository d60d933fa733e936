"""The refusals: one class for each, all straight under GuiseError."""


class GuiseError(ValueError):
    """Any refusal of the program."""


class BadBreadth(GuiseError):
    """There can't be so many letters."""


class BadMachine(GuiseError):
    """The rows are no machine over the letters."""


class BadWord(GuiseError):
    """A word has what is no letter, or an endless word has no ring."""


class BadCount(GuiseError):
    """A number is out of its bounds."""


class BadName(GuiseError):
    """A new name isn't one of 1 to 12 small letters."""


class Taken(GuiseError):
    """A new name stands already."""


class NoGuise(GuiseError):
    """There is no guise by that name."""


class NoPeg(GuiseError):
    """There is no peg by that name."""


class TooMany(GuiseError):
    """A form would have too many rows, or a floor too many words."""


class TooLong(GuiseError):
    """The word that would come has too many letters."""


class NothingWorn(GuiseError):
    """There is no guise to take off."""


class NothingLeft(GuiseError):
    """There is nothing to take back, or nothing to do again."""


class BadLine(GuiseError):
    """A text is no written deed."""


class BadPage(GuiseError):
    """A page is refused at one of its rows, counted from 1."""

    def __init__(self, at):
        self.at = at

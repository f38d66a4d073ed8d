"""The errors of the package: one class for each kind of failure."""


class KitError(ValueError):
    """What each error of the package is; its value is what was wrong."""

    def __init__(self, value):
        self.value = value


class InvalidNumber(KitError):
    """What is no number."""


class InvalidPoint(KitError):
    """What is no point."""


class InvalidOffset(KitError):
    """What is no offset."""


class InvalidTable(KitError):
    """What is no table, or does not grow where it has to."""


class InvalidKit(KitError):
    """What is no kit."""


class InvalidState(KitError):
    """What is no state of the kit."""


class InvalidWalk(KitError):
    """What is no walk from the state."""


class InvalidAddress(KitError):
    """What is no address of the state."""


class InvalidPaper(KitError):
    """What has not the form of what it is to show."""


class InvalidPair(KitError):
    """Kits of unlike tables, or no parts."""


class InvalidPower(KitError):
    """What is no exponent or length that may stand here."""


class InvalidZoom(KitError):
    """What is no zoom."""


class InvalidTurn(KitError):
    """What is no turn, or does not suit the kit."""


class InvalidWay(KitError):
    """What is no way."""


class InvalidName(KitError):
    """What can not be the name of a kit."""


class UnknownName(KitError):
    """A name under which no kit is kept."""


class NoSquares(KitError):
    """A table that does not take the axes to the axes."""


class NoMeeting(KitError):
    """States and an offset whose pictures have no common point."""


class NoReturn(KitError):
    """A way that does not return."""


class NothingToUndo(KitError):
    """There is nothing left that could be taken back."""


class Unreadable(KitError):
    """The number of the line of a text that can not stand there."""


class Unorderly(KitError):
    """A text that is no order."""

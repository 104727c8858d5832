"""The errors of the program: one class for each kind of failure."""


class ZonewardError(ValueError):
    """The base class; the place says where the failure was found."""

    def __init__(self, place):
        self.place = place


class Truncated(ZonewardError):
    """A byte list ends before something in it is complete."""


class ReservedValue(ZonewardError):
    """A byte list has a value that has no meaning."""


class InvalidForm(ZonewardError):
    """A byte list does not have the form of a message."""


class InvalidPointer(ZonewardError):
    """A pointer in a byte list does not lead to an earlier place."""


class InvalidName(ZonewardError):
    """A name has a label that is not valid, or it is too long."""


class InvalidText(ZonewardError):
    """A string is not ended, or has a character that is not allowed."""


class InvalidLine(ZonewardError):
    """A line of a zone file does not have the words that it needs."""


class OutOfRange(ZonewardError):
    """A number or a string of a zone file is out of its bounds."""


class InvalidZone(ZonewardError):
    """A zone breaks a condition; the place is the condition's number."""


class InvalidDifference(ZonewardError):
    """A difference does not apply to a zone."""

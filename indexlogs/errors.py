"""The errors of the package."""


class LogError(ValueError):
    """The base class of all errors of the package."""


class NoItem(LogError):
    """An object is no item, or no item of the log."""


class NoIndex(LogError):
    """An object is no index."""


class NoList(LogError):
    """An object is no list of items that can stand there."""


class NoLog(LogError):
    """An object is no log, no list of records, or no record or kind that can stand there."""


class NoSeen(LogError):
    """An object is no seen list of the log."""


class NoClients(LogError):
    """The clients are no valid clients."""


class NoNumber(LogError):
    """A number is not one of those that can stand there."""


class NoPosition(LogError):
    """A position is not one of those that can stand there."""


class Nothing(LogError):
    """There is nothing to undo, or something where nothing may be."""


class Impossible(LogError):
    """Something cannot have happened; the reason tells why or where."""

    def __init__(self, reason):
        self.reason = reason


class TooMany(LogError):
    """There is more to count than can be counted."""

    def __init__(self, many):
        self.many = many


class NoText(LogError):
    """A string is no text of a value; at is the number of the first wrong word."""

    def __init__(self, at):
        self.at = at

"""The errors that the program raises [c4]."""


class RaceError(ValueError):
    """The base class of all errors of the program."""


class ClubFault(RaceError):
    """The first fault of a text of a club."""

    def __init__(self, line, place, word):
        self.line = line
        self.place = place
        self.word = word


class BadSlip(RaceError):
    """A slip whose part that `word` names is wrong."""

    def __init__(self, word):
        self.word = word


class BadClock(RaceError):
    """A clock whose part that `word` names is wrong."""

    def __init__(self, word):
        self.word = word


class BadEvent(RaceError):
    """An entry of the kind `word` that is not right for the club."""

    def __init__(self, word):
        self.word = word


class NoSuchName(RaceError):
    """A name that no loft or no race of the club has."""

    def __init__(self, name):
        self.name = name


class NoSuchRing(RaceError):
    """A ring that no bird of the club has."""

    def __init__(self, ring):
        self.ring = ring


class OtherClub(RaceError):
    """A book that cannot be merged with this one."""


class WrongPaper(RaceError):
    """A paper whose first wrong part has the index `at`."""

    def __init__(self, at):
        self.at = at


class InvalidBytes(RaceError):
    """Bytes that are not as they must be at the index `at`."""

    def __init__(self, at):
        self.at = at


class TooMany(RaceError):
    """More than the `limit` allows."""

    def __init__(self, limit):
        self.limit = limit

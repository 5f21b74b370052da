"""The errors that the program raises: each knows its code and the values that it reports."""


class KeptError(ValueError):
    """The base class of all errors of the program."""


class BadName(KeptError):
    """A value that must be a name is not one."""

    def __init__(self, word):
        self.code = "BadName"
        self.word = word


class NoHouse(KeptError):
    """A name that is not a house."""

    def __init__(self, word):
        self.code = "NoHouse"
        self.word = word


class NoLine(KeptError):
    """No line with this name stands."""

    def __init__(self, word):
        self.code = "NoLine"
        self.word = word


class SelfLine(KeptError):
    """Both ends of a line are the same house; the word is the line's name."""

    def __init__(self, word):
        self.code = "SelfLine"
        self.word = word


class Taken(KeptError):
    """A name that must be new is in use."""

    def __init__(self, word):
        self.code = "Taken"
        self.word = word


class SamePart(KeptError):
    """Two houses are in one part already."""

    def __init__(self, word):
        self.code = "SamePart"
        self.word = word


class NoVersion(KeptError):
    """No version has this name."""

    def __init__(self, word):
        self.code = "NoVersion"
        self.word = word


class NoStore(KeptError):
    """No store has this name."""

    def __init__(self, word):
        self.code = "NoStore"
        self.word = word


class BadNumber(KeptError):
    """A value that must be an integer is not one, or is outside its range."""

    def __init__(self, number):
        self.code = "BadNumber"
        self.number = number


class BadPlace(KeptError):
    """A place in a row is not an integer, or is outside its range."""

    def __init__(self, number):
        self.code = "BadPlace"
        self.number = number


class NoRow(KeptError):
    """No row with this number stands."""

    def __init__(self, number):
        self.code = "NoRow"
        self.number = number


class NoPaper(KeptError):
    """No paper has this number."""

    def __init__(self, number):
        self.code = "NoPaper"
        self.number = number


class TooMany(KeptError):
    """A bound on houses, lines, deeds or the like would be exceeded."""

    def __init__(self, bound):
        self.code = "TooMany"
        self.bound = bound


class BadDeed(KeptError):
    """The item at this place in a list of deeds has not the form of a deed."""

    def __init__(self, place):
        self.code = "BadDeed"
        self.place = place


class BadText(KeptError):
    """The first fault of a text, with its row and column."""

    def __init__(self, row, column, fault):
        self.code = "BadText"
        self.row = row
        self.column = column
        self.fault = fault


class NoSeat(KeptError):
    """No seat of the yard has this key."""

    def __init__(self, key):
        self.code = "NoSeat"
        self.key = key


class SeatTaken(KeptError):
    """The key of a new seat is in the yard already, or stands twice in one list."""

    def __init__(self, key):
        self.code = "SeatTaken"
        self.key = key


class NothingLeft(KeptError):
    """There are fewer deeds to undo or redo than asked for."""

    def __init__(self):
        self.code = "NothingLeft"


class OtherHouses(KeptError):
    """Two webs that are compared have different houses."""

    def __init__(self):
        self.code = "OtherHouses"


class NoLog(KeptError):
    """A text does not begin with a whole first record."""

    def __init__(self):
        self.code = "NoLog"


class BadAsk(KeptError):
    """A question has not the form of one."""

    def __init__(self):
        self.code = "BadAsk"

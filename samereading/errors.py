"""The errors of the package."""

# The messages are fixed texts: a value that is kept may be too deep to be shown.


class ReadingError(ValueError):
    """The base of all errors of the package."""


class DifferentKinds(ReadingError):
    """Two libraries do not have the same kinds."""


class NoNumber(ReadingError):
    """A value is not the number of a reading."""

    def __init__(self, value):
        ReadingError.__init__(self, "no reading has this number")
        self.value = value


class BadItem(ReadingError):
    """A value is not an item that the library can have as a further one."""

    def __init__(self, item):
        ReadingError.__init__(self, "the library cannot have this item")
        self.item = item


class TooLarge(ReadingError):
    """An expression would have too many nodes to be written out."""

    def __init__(self, size):
        ReadingError.__init__(self, "the expression is too large")
        self.size = size


class TooMany(ReadingError):
    """A library has too many items to go through all of its parts."""

    def __init__(self, count):
        ReadingError.__init__(self, "the library has too many items")
        self.count = count


class BadKinds(ReadingError):
    """A value is not kinds."""

    def __init__(self, value):
        ReadingError.__init__(self, "these are no kinds")
        self.value = value


class BadLimit(ReadingError):
    """A value is not a limit."""

    def __init__(self, value):
        ReadingError.__init__(self, "this is no limit")
        self.value = value


class Incoherent(ReadingError):
    """A library would not be coherent with a further item."""

    def __init__(self, size):
        ReadingError.__init__(self, "the library would not be coherent")
        self.size = size


class NoPlace(ReadingError):
    """A value is not the place of an item."""

    def __init__(self, value):
        ReadingError.__init__(self, "no item has this place")
        self.value = value


class NothingToUndo(ReadingError):
    """No change is left that can be taken back."""


class BadText(ReadingError):
    """A text goes wrong at a position."""

    def __init__(self, position):
        ReadingError.__init__(self, "the text goes wrong at this position")
        self.position = position


class BadCommand(ReadingError):
    """A line is not a command."""

    def __init__(self, line):
        ReadingError.__init__(self, "this is no command")
        self.line = line

"""The errors that the document promises.

No class writes a message of its own: Python shows the attributes behind the name of the class.
"""


class DrawError(ValueError):
    """Stands above all errors of the package."""


class NothingToUndo(DrawError):
    """No step of the desk can be undone."""


class NothingToRedo(DrawError):
    """No step of the desk can be redone."""


class ZeroBottom(DrawError):
    """A fraction has the bottom 0."""


class BadLine(DrawError):
    """A line is not the written form of any statement."""

    def __init__(self, line):
        self.line = line


class BadPlace(DrawError):
    """A statement must not stand where it stands."""

    def __init__(self, line):
        self.line = line


class NameTaken(DrawError):
    """A name belongs to an item that the statement must not name."""

    def __init__(self, line):
        self.line = line


class NoName(DrawError):
    """A name belongs to no item."""

    def __init__(self, line):
        self.line = line


class TooLarge(DrawError):
    """A text or a graph is larger than its bounds."""

    def __init__(self, line):
        self.line = line


class LoopLabel(DrawError):
    """A loop has a label."""

    def __init__(self, line):
        self.line = line


class FlatEdge(DrawError):
    """An edge joins two items of one class."""

    def __init__(self, line):
        self.line = line


class FirmRing(DrawError):
    """Firm edges form a ring."""

    def __init__(self, line):
        self.line = line


class Unclosed(DrawError):
    """A group or a lot is still open at the end."""

    def __init__(self, line):
        self.line = line


class BadOption(DrawError):
    """An option has a strange key, or a value that does not fit."""

    def __init__(self, key):
        self.key = key


class NoPair(DrawError):
    """Two numbers are no pair of a cost table."""

    def __init__(self, a, b):
        self.a = a
        self.b = b


class SizesDiffer(DrawError):
    """Two cost tables have unlike sizes."""

    def __init__(self, first, second):
        self.first = first
        self.second = second


class NotTurned(DrawError):
    """An edge is not turned."""

    def __init__(self, edge):
        self.edge = edge


class RisingRing(DrawError):
    """A ring of bounds leaves no heights."""

    def __init__(self, ring):
        self.ring = ring


class Crossed(DrawError):
    """An exchange leaves no orders without a crossing."""

    def __init__(self, walk):
        self.walk = walk


class EmptySpan(DrawError):
    """A span has no numbers."""

    def __init__(self, low, high):
        self.low = low
        self.high = high


class BadMark(DrawError):
    """A row is not the written form of the next mark."""

    def __init__(self, row):
        self.row = row


class TooWide(DrawError):
    """The net of a graph has too many places."""

    def __init__(self, name):
        self.name = name


class NoGraph(DrawError):
    """No graph has this name."""

    def __init__(self, name):
        self.name = name


class NoLine(DrawError):
    """No line has this number."""

    def __init__(self, number):
        self.number = number


class Refused(DrawError):
    """The desk cannot do a step."""

    def __init__(self, index):
        self.index = index


class BadDeed(DrawError):
    """A line is not the written form of any deed."""

    def __init__(self, line):
        self.line = line

"""Inks: sets of marks."""

from drawnlayers.errors import BadMark
from drawnlayers.ink.marks import moved_mark, parse_mark, write_mark


class Ink:
    """A set of marks."""

    def __init__(self, marks):
        self._marks = tuple(sorted(set(marks)))
        self._held = {mark: True for mark in self._marks}

    def __len__(self):
        return len(self._marks)

    def __contains__(self, x):
        return x in self._held

    def __iter__(self):
        return iter(self._marks)

    def __add__(self, other):
        return Ink(self._marks + other._marks)

    def __and__(self, other):
        return Ink([mark for mark in self._marks if mark in other._held])

    def __sub__(self, other):
        return Ink([mark for mark in self._marks if mark not in other._held])

    @property
    def marks(self):
        """The marks in ascending order."""
        return self._marks

    def moved(self, dx, dy):
        """Return the ink moved to the right by dx and downwards by dy."""
        return Ink([moved_mark(mark, dx, dy) for mark in self._marks])

    def written(self):
        """Return the written form of the ink."""
        return "\n".join([write_mark(mark) for mark in self._marks])

    @classmethod
    def read(cls, text):
        """Return the ink whose written form the string is."""
        return cls(_read_marks(text))


def joined(*inks):
    """Return the ink with the marks of all the inks."""
    return Ink([mark for ink in inks for mark in ink])


def _read_marks(text):
    """Return the marks of a written ink; the first row that is none, or is not greater than the row before, is bad."""
    marks = []
    rows = [] if text == "" else text.split("\n")
    for number, row in enumerate(rows):
        mark = parse_mark(row)
        if mark is None or (marks and mark <= marks[-1]):
            raise BadMark(number)
        marks.append(mark)
    return marks

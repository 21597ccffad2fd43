"""Marks: what inks are made of, and their written forms."""

from drawnlayers.base.digits import read_signed
from drawnlayers.errors import BadMark
from drawnlayers.text.words import PLAIN_SIGNS

FARTHEST = 999999
LONGEST_TEXT = 36
LONGEST_NOTE = 6

# What stands behind the first word of each mark.
SHAPES = {
    "box": ("x", "y", "size", "size"),
    "frame": ("x", "y", "size", "size"),
    "text": ("x", "y", "text"),
    "note": ("x", "y", "label"),
    "line": ("x", "y", "y"),
    "curve": ("x", "y", "x", "y"),
    "head": ("x", "y", "way"),
    "loop": ("x", "y", "y", "size"),
}
PIECES = ("line", "curve", "note")


def is_mark(mark):
    """Tell whether the tuple is a mark."""
    if mark == () or mark[0] not in SHAPES:
        return False
    shape = SHAPES[mark[0]]
    if len(mark) != len(shape) + 1:
        return False
    if not all([_fits(part, item) for part, item in zip(shape, mark[1:])]):
        return False
    if mark[0] == "curve":
        return mark[2] < mark[4] and mark[1] != mark[3]
    if mark[0] in ("line", "loop"):
        return mark[2] < mark[3]
    return True


def begin_of(mark):
    """Return the point at which a piece begins."""
    if mark[0] == "note":
        return (mark[1] + _half_of_note(mark), mark[2])
    return (mark[1], mark[2])


def end_of(mark):
    """Return the point at which a piece ends."""
    if mark[0] == "note":
        return (mark[1] + _half_of_note(mark), mark[2] + 1)
    if mark[0] == "line":
        return (mark[1], mark[3])
    return (mark[3], mark[4])


def moved_mark(mark, dx, dy):
    """Return the mark moved to the right by dx and downwards by dy."""
    moves = {"x": dx, "y": dy}
    items = [item + moves[part] if part in moves else item for part, item in zip(SHAPES[mark[0]], mark[1:])]
    return (mark[0], *items)


def write_mark(mark):
    """Return the written form of a mark."""
    return " ".join([str(item) for item in mark])


def read_mark(line):
    """Return the mark whose written form the line is."""
    mark = parse_mark(line)
    if mark is None:
        raise BadMark(0)
    return mark


def parse_mark(line):
    """Return the mark whose written form the line is, or None if there is none."""
    words = line.split(" ")
    shape = SHAPES.get(words[0])
    if shape is None or len(words) != len(shape) + 1:
        return None
    items = [_parse_item(part, word) for part, word in zip(shape, words[1:])]
    mark = (words[0], *items)
    return mark if is_mark(mark) else None


def _fits(part, item):
    """Tell whether the item may stand at this part of a mark."""
    if part == "way":
        return item in ("down", "up")
    if part in ("text", "label"):
        longest = LONGEST_TEXT if part == "text" else LONGEST_NOTE
        return isinstance(item, str) and 1 <= len(item) <= longest and all([sign in PLAIN_SIGNS for sign in item])
    # True and False are instances of int, but they are no numbers here.
    if isinstance(item, bool) or not isinstance(item, int):
        return False
    return (1 if part == "size" else -FARTHEST) <= item <= FARTHEST


def _half_of_note(mark):
    """Return how far from the left side of a note the way passes it."""
    return (len(mark[3]) + 2) // 2


def _parse_item(part, word):
    if part in ("text", "label", "way"):
        return word
    return read_signed(word, FARTHEST)

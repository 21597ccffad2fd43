"""Deeds and their written forms."""

from drawnlayers.base.digits import read_number
from drawnlayers.errors import BadDeed

GREATEST_NUMBER = 999
LONGEST_LINE = 200
BETWEEN_EDITS = " ; "

# How many numbers stand behind the word of an edit without a line.
NUMBERS = {"take": 1, "move": 2}


def write_deed(deed):
    """Return the written form of a deed."""
    if deed[0] != "do":
        return deed[0]
    return BETWEEN_EDITS.join([_write_edit(edit) for edit in deed[1]])


def read_deed(line):
    """Return the deed whose written form the line is."""
    deed = parse_deed(line)
    if deed is None:
        raise BadDeed(0)
    return deed


def parse_deed(line):
    """Return the deed whose written form the line is, or None if there is none."""
    if line in ("undo", "redo"):
        return (line,)
    edits = [_parse_edit(written) for written in line.split(BETWEEN_EDITS)]
    return None if None in edits else ("do", tuple(edits))


def _write_edit(edit):
    return " ".join([str(item) for item in edit])


def _parse_edit(written):
    """Return the edit whose written form this is, or None if there is none."""
    word, _, rest = written.partition(" ")
    if word == "put":
        return _parse_put(rest)
    numbers = [read_number(digits, GREATEST_NUMBER) for digits in rest.split(" ")]
    if len(numbers) != NUMBERS.get(word, 0) or None in numbers:
        return None
    return (word, *numbers)


def _parse_put(rest):
    """Return the edit that puts a line, from what is written behind its word, or None if there is none."""
    digits, _, line = rest.partition(" ")
    at = read_number(digits, GREATEST_NUMBER)
    return ("put", at, line) if at is not None and _is_plain(line) else None


def _is_plain(line):
    """Tell whether the line may stand in a written deed."""
    if not 1 <= len(line) <= LONGEST_LINE or line[0] == " " or line[-1] == " ":
        return False
    return ";" not in line and "\n" not in line

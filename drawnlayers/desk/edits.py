"""Desk edits: putting lines in, taking them out and moving them."""

from drawnlayers.errors import NoLine


def apply_edit(lines, edit):
    """Return the tuple of the lines after the edit."""
    _check_numbers(lines, edit)
    at = edit[1]
    if edit[0] == "put":
        return (*lines[:at], edit[2], *lines[at:])
    left = (*lines[:at], *lines[at + 1:])
    if edit[0] == "take":
        return left
    to = edit[2]
    return (*left[:to], lines[at], *left[to:])


def inverse_edit(lines, edit):
    """Return the edit that turns the lines after the edit back into these lines."""
    _check_numbers(lines, edit)
    at = edit[1]
    if edit[0] == "put":
        return ("take", at)
    if edit[0] == "take":
        return ("put", at, lines[at])
    return ("move", edit[2], at)


def _check_numbers(lines, edit):
    """Each number must be that of a line; a line may also be put behind the last one."""
    numbers = edit[1:] if edit[0] == "move" else edit[1:2]
    most = len(lines) if edit[0] == "put" else len(lines) - 1
    for number in numbers:
        if not 0 <= number <= most:
            raise NoLine(number)

"""Texts: statements line by line."""

from drawnlayers.errors import BadLine, TooLarge
from drawnlayers.text.lines import parse_line, write_line

MOST_LINES = 80


def write_text(statements):
    """Return the text of the statements."""
    return "\n".join([write_line(statement) for statement in statements])


def read_text(text):
    """Return the tuple of the statements of a text."""
    if text == "":
        return ()
    statements = []
    for number, line in enumerate(text.split("\n")):
        if number == MOST_LINES:
            raise TooLarge(number)
        statement = parse_line(line)
        if statement is None:
            raise BadLine(number)
        statements.append(statement)
    return tuple(statements)

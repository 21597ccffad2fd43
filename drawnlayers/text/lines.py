"""Statements and their written forms."""

from drawnlayers.base.digits import read_number
from drawnlayers.errors import BadLine
from drawnlayers.text.words import GREATEST_NUMBER, is_name, is_value

MOST_EDGE_NAMES = 13
MOST_SAME_NAMES = 8

# The words of the statements that have options, and the kind of these options.
OPTION_KINDS = {
    "node": "item",
    "lot": "item",
    "nodes": "item",
    "edge": "edge",
    "edges": "edge",
    "graph": "graph",
}
FIRM_WORDS = {"yes": True, "no": False}


def write_line(statement):
    """Return the written form of a statement."""
    names, options = _names_and_options(statement)
    written = [key + "=" + _write_value(value) for key, value in options]
    return " ".join([statement[0], *names, *written])


def read_line(line):
    """Return the statement whose written form the line is."""
    statement = parse_line(line)
    if statement is None:
        raise BadLine(0)
    return statement


def parse_line(line):
    """Return the statement whose written form the line is, or None if there is none."""
    words = line.split(" ")
    word = words[0]
    rest = words[1:]
    if word in ("group", "end"):
        return (word,) if rest == [] else None
    if word in ("node", "lot"):
        return _parse_item(word, rest)
    if word in ("nodes", "edges", "graph"):
        return _parse_defaults(word, rest)
    if word == "edge":
        return _parse_edge(rest)
    if word == "same":
        return _parse_same(rest)
    return None


def _names_and_options(statement):
    word = statement[0]
    if word in ("group", "end"):
        return (), ()
    if word in ("node", "lot"):
        return (statement[1],), statement[2]
    if word == "edge":
        return statement[1], statement[2]
    if word == "same":
        return statement[1], ()
    return (), statement[1]


def _write_value(value):
    if value is True:
        return "yes"
    if value is False:
        return "no"
    return str(value)


def _parse_item(word, rest):
    if rest == [] or not is_name(rest[0]):
        return None
    options = _parse_options(word, rest[1:])
    if options is None:
        return None
    return (word, rest[0], options)


def _parse_defaults(word, rest):
    options = _parse_options(word, rest)
    if options is None or options == ():
        return None
    return (word, options)


def _parse_edge(rest):
    many = 0
    while many < len(rest) and is_name(rest[many]):
        many += 1
    options = _parse_options("edge", rest[many:])
    if options is None or not 2 <= many <= MOST_EDGE_NAMES:
        return None
    return ("edge", tuple(rest[:many]), options)


def _parse_same(rest):
    if not 2 <= len(rest) <= MOST_SAME_NAMES or len(set(rest)) < len(rest):
        return None
    if not all([is_name(word) for word in rest]):
        return None
    return ("same", tuple(rest))


def _parse_options(word, rest):
    """Return the options of a statement with this word, or None if one of them is bad."""
    found = {}
    for option in rest:
        key, sign, written = option.partition("=")
        if sign == "" or key in found:
            return None
        value = _parse_value(key, written)
        if not is_value(OPTION_KINDS[word], key, value):
            return None
        found[key] = value
    return tuple([(key, found[key]) for key in found])


def _parse_value(key, written):
    if key == "label":
        return written
    if key == "firm":
        return FIRM_WORDS.get(written)
    return read_number(written, GREATEST_NUMBER)

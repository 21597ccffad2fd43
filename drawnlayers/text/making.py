"""Statements made by calls, with their options as keywords."""

from drawnlayers.errors import BadOption
from drawnlayers.text.words import is_value


def node_line(name, **options):
    """Return the statement `node` with this name and these options."""
    return ("node", name, _checked("item", options))


def lot_line(name, **options):
    """Return the statement `lot` with this name and these options."""
    return ("lot", name, _checked("item", options))


def edge_line(*names, **options):
    """Return the statement `edge` with these names and options."""
    return ("edge", names, _checked("edge", options))


def nodes_line(**options):
    """Return the statement `nodes` with these options."""
    return ("nodes", _checked("item", options))


def edges_line(**options):
    """Return the statement `edges` with these options."""
    return ("edges", _checked("edge", options))


def graph_line(**options):
    """Return the statement `graph` with these options."""
    return ("graph", _checked("graph", options))


def same_line(*names):
    """Return the statement `same` with these names."""
    return ("same", names)


def _checked(kind, options):
    """Return the options as pairs; the first one that does not fit is an error."""
    for key, value in options.items():
        if not is_value(kind, key, value):
            raise BadOption(key)
    return tuple([(key, options[key]) for key in options])

"""The plain text of a graph: the one text among all that build it which says nothing twice."""

from drawnlayers.text.texts import write_text
from drawnlayers.text.words import EDGE_KEYS, GRAPH_KEYS, ITEM_KEYS, initial_values


def plain_statements(graph):
    """Return the plain statements of a graph."""
    return tuple(_statements(graph, tuple(initial_values("graph").values())))


def plain_text(graph):
    """Return the written form of the plain statements of a graph."""
    return write_text(plain_statements(graph))


def _statements(graph, outer_settings):
    """Return the list of the plain statements of a graph that begins with the settings of its outer graph."""
    settings, items, classes, edges = graph
    names = [item[0] for item in items]
    found = []
    if settings != outer_settings:
        found.append(("graph", _differing(GRAPH_KEYS, settings, outer_settings)))
    for item in items:
        found.extend(_item_statements(item, settings))
    for members in classes:
        found.append(("same", tuple([names[member] for member in members])))
    edge_start = tuple(initial_values("edge").values())
    for edge in edges:
        found.append(("edge", (names[edge[0]], names[edge[1]]), _differing(EDGE_KEYS, edge[2:], edge_start)))
    return found


def _item_statements(item, settings):
    options = _differing(ITEM_KEYS, item[1:4], tuple(initial_values("item").values()))
    if item[4] is None:
        return [("node", item[0], options)]
    return [("lot", item[0], options), *_statements(item[4], settings), ("end",)]


def _differing(names, values, first_values):
    """Return the options for the values that are not the first ones."""
    return tuple([(name, value) for name, value, first in zip(names, values, first_values) if value != first])

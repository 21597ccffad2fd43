"""Building a graph from statements."""

from drawnlayers.graph.builder import build


def build_graph(statements):
    """Return the graph that a tuple of statements describes."""
    return build(statements).finished()

"""Texts that build equal graphs."""

from drawnlayers.errors import DrawError
from drawnlayers.graph.build import build_graph
from drawnlayers.text.texts import read_text


def alike(one, other):
    """Tell whether two texts build equal graphs."""
    graph = build_graph(read_text(one))
    return graph == build_graph(read_text(other))


def needless_lines(text):
    """Return the numbers of the lines without each of which the text builds an equal graph."""
    statements = read_text(text)
    graph = build_graph(statements)
    # The text without a line that can be read is the text of the other statements.
    return [at for at in range(len(statements)) if _builds(statements[:at] + statements[at + 1:], graph)]


def _builds(statements, graph):
    """Tell whether the statements can be done and build this graph."""
    try:
        return build_graph(statements) == graph
    except DrawError:
        return False

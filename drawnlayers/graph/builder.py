"""Doing statements one after the other, from which a graph grows."""

from drawnlayers.errors import BadPlace, FirmRing, FlatEdge, LoopLabel, NameTaken, NoName, TooLarge, Unclosed
from drawnlayers.graph.draft import Draft, first_values, with_options
from drawnlayers.graph.limits import DEEPEST, MOST_EDGES, MOST_EDGES_IN_ALL, MOST_ITEMS, MOST_ITEMS_IN_ALL, MOST_LOTS


class Opened:
    """A group or a lot that is open, with all that holds again when it ends."""

    def __init__(self, line, word, outer, item_defaults, edge_defaults):
        self.line = line
        self.word = word
        self.outer = outer
        self.item_defaults = item_defaults
        self.edge_defaults = edge_defaults


class Builder:
    """The state between two statements."""

    def __init__(self):
        self.root = Draft("", 0, first_values("graph"))
        self.current = self.root
        self.opened = []
        self.item_defaults = first_values("item")
        self.edge_defaults = first_values("edge")
        self.names = {}
        self.lot_count = 0
        self.edge_count = 0

    def enter(self, line, word):
        """Open a group or a lot, and remember what holds now."""
        self.opened.append(Opened(line, word, self.current, self.item_defaults, self.edge_defaults))

    def leave(self):
        """Close what was opened last."""
        frame = self.opened.pop()
        self.current = frame.outer
        self.item_defaults = frame.item_defaults
        self.edge_defaults = frame.edge_defaults

    def add_item(self, line, name, options, inner):
        """Add a node or a lot with the given values and the defaults."""
        self.names[name] = True
        self.current.add_item(name, with_options(self.item_defaults, options, line), inner)


def build(statements):
    """Do all statements, and return the draft of the root."""
    builder = Builder()
    for line, statement in enumerate(statements):
        action = ACTIONS[statement[0]]
        action(builder, line, statement)
    if builder.opened:
        raise Unclosed(builder.opened[-1].line)
    return builder.root


def _do_node(builder, line, statement):
    name, options = statement[1], statement[2]
    _check_names(builder, line, (name,))
    if builder.current.has(name):
        builder.current.change_item(name, options, line)
        return
    _check_room(builder, line, 1, 0)
    builder.add_item(line, name, options, None)


def _do_lot(builder, line, statement):
    name, options = statement[1], statement[2]
    outer = builder.current
    if name in builder.names:
        raise NameTaken(line)
    _check_room(builder, line, 1, 0)
    if builder.lot_count == MOST_LOTS or outer.depth == DEEPEST:
        raise TooLarge(line)
    # The settings are handed down with their origins, as they are at this moment.
    inner = Draft(name, outer.depth + 1, dict(outer.settings))
    builder.add_item(line, name, options, inner)
    builder.lot_count += 1
    builder.enter(line, "lot")
    builder.current = inner


def _do_edge(builder, line, statement):
    names, options = statement[1], statement[2]
    _check_names(builder, line, names)
    fresh = {name: True for name in names if name not in builder.names}
    _check_room(builder, line, len(fresh), len(names) - 1)
    for name in fresh:
        builder.add_item(line, name, (), None)
    builder.edge_count += len(names) - 1
    values = with_options(builder.edge_defaults, options, line)
    for first, second in zip(names, names[1:]):
        edge = builder.current.add_edge(first, second, values)
        _check_edge(builder.current, line, edge)


def _do_nodes(builder, line, statement):
    builder.item_defaults = with_options(builder.item_defaults, statement[1], line)


def _do_edges(builder, line, statement):
    builder.edge_defaults = with_options(builder.edge_defaults, statement[1], line)


def _do_graph(builder, line, statement):
    if builder.opened and builder.opened[-1].word == "group":
        raise BadPlace(line)
    builder.current.settings = with_options(builder.current.settings, statement[1], line)


def _do_same(builder, line, statement):
    names = statement[1]
    for name in names:
        if name not in builder.names:
            raise NoName(line)
        _check_names(builder, line, (name,))
    graph = builder.current
    graph.unite(names)
    if any([graph.is_flat(edge) for edge in graph.edges]):
        raise FlatEdge(line)
    if graph.has_firm_ring():
        raise FirmRing(line)


def _do_group(builder, line, statement):
    builder.enter(line, statement[0])


def _do_end(builder, line, statement):
    if not builder.opened:
        raise BadPlace(line)
    builder.leave()


ACTIONS = {
    "node": _do_node,
    "lot": _do_lot,
    "edge": _do_edge,
    "nodes": _do_nodes,
    "edges": _do_edges,
    "graph": _do_graph,
    "same": _do_same,
    "group": _do_group,
    "end": _do_end,
}


def _check_names(builder, line, names):
    """No name may be an item of another graph than the current one."""
    for name in names:
        if name in builder.names and not builder.current.has(name):
            raise NameTaken(line)


def _check_room(builder, line, items, edges):
    """There must be room for so many more items and edges in the current graph."""
    graph = builder.current
    if len(graph.members) + items > MOST_ITEMS or len(graph.edges) + edges > MOST_EDGES:
        raise TooLarge(line)
    if len(builder.names) + items > MOST_ITEMS_IN_ALL or builder.edge_count + edges > MOST_EDGES_IN_ALL:
        raise TooLarge(line)


def _check_edge(graph, line, edge):
    """An edge that was just added must be sound beside those before it."""
    if edge.is_loop() and edge.value("label") != "":
        raise LoopLabel(line)
    if graph.is_flat(edge):
        raise FlatEdge(line)
    if graph.has_firm_ring():
        raise FirmRing(line)

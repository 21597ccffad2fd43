"""Graphs as tuples (settings, items, classes, edges)."""

from drawnlayers.base.rings import find_ring
from drawnlayers.errors import NoGraph
from drawnlayers.graph.limits import DEEPEST, MOST_EDGES, MOST_EDGES_IN_ALL, MOST_ITEMS, MOST_ITEMS_IN_ALL, MOST_LOTS
from drawnlayers.text.words import EDGE_KEYS, GRAPH_KEYS, ITEM_KEYS, is_value


def class_list(graph):
    """Return the classes that are listed and one for each other item, in ascending order."""
    items, classes = graph[1], graph[2]
    listed = [item for members in classes for item in members]
    single = [(item,) for item in range(len(items)) if item not in listed]
    return tuple(sorted([*classes, *single]))


def class_numbers(graph):
    """Return for each item the number of its class in the class list."""
    numbers = [0] * len(graph[1])
    for number, members in enumerate(class_list(graph)):
        for item in members:
            numbers[item] = number
    return tuple(numbers)


def walk_graphs(graph):
    """Yield (name, graph) for each graph of a root: it first, then those of each lot."""
    waiting = [("", graph)]
    while waiting:
        name, current = waiting.pop()
        yield (name, current)
        lots = [(item[0], item[4]) for item in current[1] if item[4] is not None]
        waiting.extend(lots[::-1])


def graph_named(graph, name):
    """Return the graph with this name among the graphs of a root."""
    for found, current in walk_graphs(graph):
        if found == name:
            return current
    raise NoGraph(name)


def shown_label(item):
    """Return the label of an item with its name in the place of each $."""
    return item[1].replace("$", item[0])


def is_sound(graph):
    """Tell whether a root keeps all that is asked of a sound graph."""
    graphs = [pair[1] for pair in walk_graphs(graph)]
    return _is_small(graph, graphs) and _names_differ(graphs) and all([_is_sound_alone(one) for one in graphs])


def _is_small(graph, graphs):
    sizes = [len(one[1]) for one in graphs]
    edges = [len(one[3]) for one in graphs]
    if max(sizes) > MOST_ITEMS or max(edges) > MOST_EDGES:
        return False
    if sum(sizes) > MOST_ITEMS_IN_ALL or sum(edges) > MOST_EDGES_IN_ALL:
        return False
    # Every graph but the root stands in a lot.
    return len(graphs) - 1 <= MOST_LOTS and _depth(graph) <= DEEPEST


def _depth(graph):
    below = [_depth(item[4]) for item in graph[1] if item[4] is not None]
    return 1 + max(below) if below else 0


def _names_differ(graphs):
    names = [item[0] for one in graphs for item in one[1]]
    return len(set(names)) == len(names)


def _is_sound_alone(graph):
    """Tell whether a graph has fitting values, and no bad edges; its lots are not looked into."""
    if not _values_fit(graph):
        return False
    numbers = class_numbers(graph)
    firm = []
    for tail, head, label, weight, span, price, is_firm in graph[3]:
        if tail == head:
            if label != "":
                return False
        elif numbers[tail] == numbers[head]:
            return False
        elif is_firm:
            firm.append((numbers[tail], numbers[head]))
    return find_ring(len(numbers), firm) is None


def _values_fit(graph):
    settings, items, classes, edges = graph
    fits = _row_fits("graph", GRAPH_KEYS, settings)
    fits = fits and all([_row_fits("item", ITEM_KEYS, item[1:4]) for item in items])
    return fits and all([_row_fits("edge", EDGE_KEYS, edge[2:]) for edge in edges])


def _row_fits(kind, names, row):
    return all([is_value(kind, name, value) for name, value in zip(names, row)])

"""The ranks of a graph."""

from drawnlayers.arrange.turning import turned_edges
from drawnlayers.graph.graphs import class_list, class_numbers
from drawnlayers.heights.best import best_heights
from drawnlayers.heights.trees import link_system


def rank_links(graph):
    """Return the links between the classes, one for each edge that is not a loop, from its upper to its lower end."""
    numbers = class_numbers(graph)
    turned = turned_edges(graph)
    links = []
    for number, edge in enumerate(graph[3]):
        if edge[0] != edge[1]:
            upper, lower = upper_and_lower(edge, number in turned)
            links.append((numbers[upper], numbers[lower], _gap(edge), edge[3]))
    return tuple(links)


def ranks(graph):
    """Return the ranks of the items."""
    heights = best_heights(link_system(len(class_list(graph)), rank_links(graph)))
    return tuple([heights[number] for number in class_numbers(graph)])


def upper_and_lower(edge, is_turned):
    """Return the upper and the lower end of an edge that is not a loop."""
    return (edge[1], edge[0]) if is_turned else (edge[0], edge[1])


def _gap(edge):
    """Return the least length of an edge: a label needs a rank between its ends."""
    label, span = edge[2], edge[4]
    return 2 if span == 1 and label != "" else span

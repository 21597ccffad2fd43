"""The edges that are turned, so that no ring is left."""

from drawnlayers.arrange.costs import Costs
from drawnlayers.arrange.least import least_order
from drawnlayers.base.paths import shortest_path
from drawnlayers.errors import NotTurned
from drawnlayers.graph.graphs import class_list, class_numbers


def turning_costs(graph):
    """Return the cost table of the classes: what the edges from b to a cost if class a stands before class b."""
    numbers = class_numbers(graph)
    firm_price = 1 + sum([edge[5] for edge in graph[3] if not edge[6] and edge[0] != edge[1]])
    costs = Costs(len(class_list(graph)))
    for edge in graph[3]:
        if edge[0] != edge[1]:
            begin, end = numbers[edge[0]], numbers[edge[1]]
            price = firm_price if edge[6] else edge[5]
            costs.put(end, begin, costs[end, begin] + price)
    return costs


def turning_order(graph):
    """Return the least order of the turning costs."""
    return least_order(turning_costs(graph))[1]


def turned_edges(graph):
    """Return the numbers of the turned edges in ascending order."""
    order = turning_order(graph)
    places = [order.index(number) for number in class_numbers(graph)]
    return tuple([number for number, edge in enumerate(graph[3]) if places[edge[1]] < places[edge[0]]])


def closing_ring(graph, edge):
    """Return a ring of edge numbers that begins with a turned edge and goes on along edges that are not turned."""
    turned = turned_edges(graph)
    if edge not in turned:
        raise NotTurned(edge)
    numbers = class_numbers(graph)
    arcs = [(numbers[row[0]], numbers[row[1]]) for row in graph[3]]
    onward = [number for number in range(len(arcs)) if number not in turned]
    begin, end = arcs[edge]
    path = shortest_path([arcs[number] for number in onward], end, begin)
    return tuple([edge] + [onward[at] for at in path])

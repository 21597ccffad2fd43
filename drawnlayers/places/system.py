"""The system whose least best heights are the positions of the places."""

from drawnlayers.places.offsets import offsets
from drawnlayers.places.sizes import full_widths


def place_system(graph, plan, inner):
    """Return the system of the places: neighbours keep their distance, and segments are pulled upright."""
    across = graph[0][0]
    widths = full_widths(graph, plan, inner)
    bounds = []
    for order in plan["orders"]:
        for left, right in zip(order, order[1:]):
            bounds.append((left, right, widths[left] + across))
    pulls = []
    attached = offsets(graph, plan, inner)
    for number, (upper, lower) in enumerate(plan["segments"]):
        edge = graph[3][plan["carriers"][number]]
        weight = edge[3] * (1 + _stations(plan, (upper, lower)))
        pulls.append((upper, lower, attached[number][0] - attached[number][1], weight))
    return (len(widths), tuple(bounds), tuple(pulls))


def _stations(plan, places):
    """Return how many of the places are stations."""
    return len([place for place in places if plan["owners"][place][0] == "station"])

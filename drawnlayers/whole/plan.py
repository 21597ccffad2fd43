"""The plan of a graph: all that does not depend on how large its boxes are."""

from drawnlayers.arrange.turning import turned_edges, turning_order
from drawnlayers.graph.graphs import class_list
from drawnlayers.heights.ranks import ranks
from drawnlayers.net.build import net_of
from drawnlayers.net.exchange import find_exchange
from drawnlayers.orders.chosen import chosen_orders
from drawnlayers.orders.crossings import crossings


def plan_of(graph, *, name=""):
    """Return the plan of a graph, as a dict; name is its name in an error."""
    levels, segments, owners, carriers = net_of(graph, name=name)
    net = (levels, segments)
    orders = chosen_orders(net)
    return {
        "classes": class_list(graph),
        "order": turning_order(graph),
        "turned": turned_edges(graph),
        "ranks": ranks(graph),
        "levels": levels,
        "segments": segments,
        "owners": owners,
        "carriers": carriers,
        "exchange": find_exchange(net),
        "orders": orders,
        "crossings": crossings(net, orders),
    }

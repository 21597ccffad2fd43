"""The orders in which a net is drawn."""

from drawnlayers.net.exchange import find_exchange
from drawnlayers.net.strips import uncrossed_orders
from drawnlayers.orders.medians import start_orders
from drawnlayers.orders.rest import settled


def chosen_orders(net):
    """Return orders without a crossing if there are any, and otherwise the settled start orders."""
    if find_exchange(net) is None:
        return uncrossed_orders(net)
    return settled(net, start_orders(net))

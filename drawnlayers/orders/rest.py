"""Orders in which no level alone can be ordered better."""

from drawnlayers.arrange.costs import Costs
from drawnlayers.arrange.least import least_order, order_price
from drawnlayers.net.levels import place_indexes, places_by_level


def level_costs(net, orders, level):
    """Return the cost table of a level: how many segments cross if one place stands to the left of another one."""
    indexes = place_indexes(orders)
    row = places_by_level(net)[level]
    above = [[indexes[upper] for upper, lower in net[1] if lower == place] for place in row]
    below = [[indexes[lower] for upper, lower in net[1] if upper == place] for place in row]
    costs = Costs(len(row))
    for a in range(len(row)):
        for b in range(len(row)):
            if a != b:
                costs.put(a, b, _crossed(above[a], above[b]) + _crossed(below[a], below[b]))
    return costs


def at_rest(net, orders):
    """Tell whether each level has an order of the least price."""
    return all([_rested(net, orders, level) == orders[level] for level in range(len(orders))])


def settled(net, orders):
    """Return the orders after passes in which each level that is not at rest gets its least order."""
    before = None
    after = list(orders)
    while after != before:
        before = list(after)
        for level in range(len(after)):
            after[level] = _rested(net, after, level)
    return tuple(after)


def _rested(net, orders, level):
    """Return the order of a level if its price is the least one, and otherwise the least order of its costs."""
    row = places_by_level(net)[level]
    costs = level_costs(net, orders, level)
    price, least = least_order(costs)
    if order_price(costs, [row.index(place) for place in orders[level]]) == price:
        return orders[level]
    return tuple([row[number] for number in least])


def _crossed(left, right):
    """Return how many segments of a left place cross those of a right one; both are given by their other ends."""
    return len([1 for one in left for other in right if one > other])

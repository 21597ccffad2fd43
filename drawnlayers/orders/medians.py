"""Orders by medians, level after level."""

from drawnlayers.net.levels import places_by_level


def median_order(net, orders, level):
    """Return the median order of a level from 1 on with respect to the level before."""
    indexes = {place: at for at, place in enumerate(orders[level - 1])}
    rows = []
    for place in places_by_level(net)[level]:
        found = sorted([indexes[upper] for upper, lower in net[1] if lower == place])
        median = found[(len(found) - 1) // 2] if found else -1
        is_even = len(found) % 2 == 0
        rows.append((median, is_even, place))
    return tuple([row[2] for row in sorted(rows)])


def start_orders(net):
    """Return the orders with level 0 ascending, and each next level in its median order."""
    rows = places_by_level(net)
    orders = list(rows[:1])
    for level in range(1, len(rows)):
        orders.append(median_order(net, orders, level))
    return tuple(orders)

"""A bound on the price of all orders, and the rings that keep orders away from it."""

from drawnlayers.base.rings import find_ring


def pair_bound(costs):
    """Return the sum of the lesser cost of each two numbers; no order has a lesser price."""
    rows = costs.rows()
    return sum([min(rows[a][b], rows[b][a]) for a in range(costs.size) for b in range(a)])


def cheap_ring(costs):
    """Return numbers in a ring, each of which is cheaper before the next one than behind it, or None."""
    rows = costs.rows()
    numbers = range(costs.size)
    # Of the two arcs between two numbers only the cheaper one is here, so a ring has at least three of them.
    arcs = tuple([(a, b) for a in numbers for b in numbers if rows[a][b] < rows[b][a]])
    ring = find_ring(costs.size, arcs)
    if ring is None:
        return None
    return tuple([arcs[at][0] for at in ring])

"""Crossings of orders, counted segment by segment with segment."""

from drawnlayers.net.levels import place_indexes


def crossings(net, orders):
    """Return the number of pairs of segments that cross."""
    return len(crossing_pairs(net, orders))


def crossing_pairs(net, orders):
    """Return the pairs of the numbers of segments that cross, in ascending order."""
    levels, segments = net
    indexes = place_indexes(orders)
    rows = [(levels[upper], indexes[upper], indexes[lower]) for upper, lower in segments]
    numbers = range(len(rows))
    return [(i, k) for i in numbers for k in numbers if i < k and _cross(rows[i], rows[k])]


def crossing_steps(orders, walk):
    """Return how many steps of the walk cross."""
    indexes = place_indexes(orders)
    lefts = [indexes[a] < indexes[b] for a, b in walk]
    return len([at for at in range(1, len(lefts)) if lefts[at - 1] != lefts[at]])


def _cross(one, other):
    """Tell whether two segments cross, each given with its level and the indexes of its ends."""
    return one[0] == other[0] and (one[1] - other[1]) * (one[2] - other[2]) < 0

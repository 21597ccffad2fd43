"""The levels of a net, and where its places stand on them."""


def places_by_level(net):
    """Return for each level the tuple of its places in ascending order."""
    levels = net[0]
    many = max(levels, default=-1) + 1
    return tuple([tuple([place for place, at in enumerate(levels) if at == level]) for level in range(many)])


def place_indexes(orders):
    """Return a dict from each place to its index in the order of its level."""
    return {place: at for order in orders for at, place in enumerate(order)}

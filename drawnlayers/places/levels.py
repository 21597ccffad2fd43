"""Where the levels of a graph begin and end."""


def level_tops(graph, plan, heights):
    """Return the tuple of the tops of the levels; heights are those of the places."""
    down = graph[0][1]
    tops = []
    top = 0
    for height in _level_heights(plan, heights):
        tops.append(top)
        top = top + height + down
    return tuple(tops)


def level_floors(plan, tops, heights):
    """Return the tuple of the floors of the levels: the top of each one plus its height."""
    return tuple([top + height for top, height in zip(tops, _level_heights(plan, heights))])


def _level_heights(plan, heights):
    """Return for each level the greatest height of its places."""
    return [max([heights[place] for place in order]) for order in plan["orders"]]

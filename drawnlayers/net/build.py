"""The net of a graph."""

from drawnlayers.arrange.turning import turned_edges
from drawnlayers.errors import TooWide
from drawnlayers.heights.ranks import ranks, upper_and_lower

MOST_PLACES = 36
MOST_ON_A_LEVEL = 7


def net_of(graph, *, name=""):
    """Return (levels, segments, owners, carriers) of the net of a graph; name is its name in an error."""
    levels = list(ranks(graph))
    owners = [("item", item) for item in range(len(levels))]
    segments = []
    carriers = []
    turned = turned_edges(graph)
    for number, edge in enumerate(graph[3]):
        if edge[0] != edge[1]:
            upper, lower = upper_and_lower(edge, number in turned)
            between = range(levels[upper] + 1, levels[lower])
            places = [upper] + [len(levels) + at for at in range(len(between))] + [lower]
            levels.extend(list(between))
            owners.extend([("station", number, rank) for rank in between])
            segments.extend([(places[at], places[at + 1]) for at in range(len(places) - 1)])
            carriers.extend([number] * (len(places) - 1))
    if _is_wide(levels):
        raise TooWide(name)
    return (tuple(levels), tuple(segments), tuple(owners), tuple(carriers))


def _is_wide(levels):
    if len(levels) > MOST_PLACES:
        return True
    return any([levels.count(level) > MOST_ON_A_LEVEL for level in levels])

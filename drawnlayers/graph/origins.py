"""The statements from which the values of a graph came."""

from drawnlayers.graph.builder import build


def origins(statements):
    """Return a dict from each value of each item, edge and graph to the number of its statement, or None."""
    found = {}
    waiting = [build(statements)]
    while waiting:
        draft = waiting.pop()
        found.update(_origins_of_one(draft))
        waiting.extend([item.inner for item in draft.members if item.inner is not None])
    return found


def _origins_of_one(draft):
    """Return the origins of the values of a graph, its items and its edges, without those of its lots."""
    found = {("graph", draft.name, key): origin for key, (_, origin) in draft.settings.items()}
    for item in draft.members:
        for key, (_, origin) in item.held.items():
            found[("item", item.name, key)] = origin
    for number, edge in enumerate(draft.edges):
        for key, (_, origin) in edge.held.items():
            found[("edge", draft.name, number, key)] = origin
    return found

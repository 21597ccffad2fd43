"""Two walkers on the places of a net, and their walks."""

from drawnlayers.net.search import came_from, joined_places, reached_pairs, step_table, turned_about


def steps_from(net, pair):
    """Return the list of the pairs that a step reaches from the pair, in ascending order."""
    if not _is_pair(net[0], pair):
        return []
    return reached_pairs(net[0], joined_places(net), pair)


def is_walk(net, walk):
    """Tell whether the tuple has pairs of the net, at least one, of which each step reaches the next one."""
    if walk == () or not _is_pair(net[0], walk[0]):
        return False
    # What a step reaches is a pair of the net, so only the first one needs a test of its own.
    return all([second in steps_from(net, first) for first, second in zip(walk, walk[1:])])


def is_exchange(net, walk):
    """Tell whether the tuple is a walk at whose end the walkers have changed places."""
    return is_walk(net, walk) and walk[-1] == turned_about(walk[0])


def tied(net, first, second):
    """Return whether two pairs are tied straight, and whether they are tied crosswise."""
    if not _is_pair(net[0], first):
        return (False, False)
    reached = came_from(step_table(net), first, {})
    return (second in reached, turned_about(second) in reached)


def _is_pair(levels, pair):
    """Tell whether two integers are two different places of one level."""
    a, b = pair
    if a == b or not 0 <= a < len(levels) or not 0 <= b < len(levels):
        return False
    return levels[a] == levels[b]

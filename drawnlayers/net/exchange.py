"""Exchanges: walks of two walkers who change places."""

from drawnlayers.net.search import came_from, step_table, turned_about, walk_to


def find_exchange(net):
    """Return an exchange of the net, or None if it has none."""
    return exchange_without(step_table(net), {})


def exchange_without(steps, barred):
    """Return an exchange that uses no step whose key is barred, or None if there is none."""
    seen = {}
    for pair in steps:
        if pair not in seen:
            came = came_from(steps, pair, barred)
            goal = turned_about(pair)
            if goal in came:
                return walk_to(came, goal)
            # Walks can be gone backwards, and by the walkers changed about: no pair that was reached has an exchange,
            # nor has one of these turned about.
            for other in came:
                seen[other] = True
                seen[turned_about(other)] = True
    return None

"""Exchanges that have no step in common."""

from drawnlayers.net.exchange import exchange_without
from drawnlayers.net.search import step_key, step_table


def all_apart(walks):
    """Tell whether no step of one of the exchanges coincides with a step of another one."""
    used = {}
    for walk in walks:
        walked = _walked_keys(walk)
        if any([key in used for key in walked]):
            return False
        for key in walked:
            used[key] = True
    return True


def apart_exchanges(net):
    """Return exchanges of which every two are apart, at least one if the net has any."""
    steps = step_table(net)
    barred = {}
    found = []
    walk = exchange_without(steps, barred)
    while walk is not None:
        found.append(walk)
        for key in _walked_keys(walk):
            barred[key] = True
        walk = exchange_without(steps, barred)
    return tuple(found)


def _walked_keys(walk):
    """Return the keys of the steps of a walk."""
    return [step_key(first, second) for first, second in zip(walk, walk[1:])]

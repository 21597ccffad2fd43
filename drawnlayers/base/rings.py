"""Rings of arcs."""


def find_ring(count, arcs):
    """Return a ring of the arcs as a tuple of their numbers, or None if there is none."""
    onward = _onward_arcs(count, arcs)
    for at in range(count):
        if onward[at] is not None:
            return _ring_from(at, arcs, onward)
    return None


def _onward_arcs(count, arcs):
    """Return for each number the first arc from which one can go on for ever, or None."""
    alive = [True] * count
    onward = _first_arcs(count, arcs, alive)
    while [step is not None for step in onward] != alive:
        alive = [step is not None for step in onward]
        onward = _first_arcs(count, arcs, alive)
    return onward


def _first_arcs(count, arcs, alive):
    """Return for each number its first arc to a number that is alive, or None."""
    firsts = [None] * count
    for number, (start, end) in enumerate(arcs):
        if firsts[start] is None and alive[end]:
            firsts[start] = number
    return firsts


def _ring_from(at, arcs, onward):
    """Go on from a number until one comes again; return the arcs since then."""
    place = {}
    path = []
    while at not in place:
        place[at] = len(path)
        path.append(onward[at])
        at = arcs[onward[at]][1]
    return tuple(path[place[at]:])

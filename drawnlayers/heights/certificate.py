"""Certificates of least best heights: forces that support them, and reasons why none of them can be less."""

from drawnlayers.base.rings import find_ring
from drawnlayers.heights.forces import best_forces, supporting_bounds
from drawnlayers.heights.least import climb, least_heights
from drawnlayers.heights.system import cost, is_balanced, keeps, worth


def certificate(system):
    """Return (heights, forces, reasons): the least best heights, and what shows that they are."""
    forces = best_forces(system, least_heights(system))
    entries = supporting_bounds(system, forces)
    heights, lifters, _ = climb((system[0], tuple([entry[0] for entry in entries]), ()))
    # What lifted an unknown last is why it cannot be lower; unknowns at 0 were never lifted.
    reasons = tuple([None if at is None else entries[at][1:] for at in lifters])
    return (heights, forces, reasons)


def check_forces(system, heights, forces):
    """Tell whether the heights keep all bounds and the forces support them."""
    if not keeps(system, heights) or not is_balanced(system, forces):
        return False
    return worth(system, forces) == cost(system, heights)


def check_reasons(system, heights, forces, reasons):
    """Tell whether the forces support the heights and the reasons show that they are the least best ones."""
    if not check_forces(system, heights, forces):
        return False
    rests = _rests(system, heights, forces)
    arcs = []
    for unknown, reason in enumerate(reasons):
        if (reason is None) != (heights[unknown] == 0):
            return False
        if reason is not None:
            key = (unknown, reason[0], reason[1])
            if key not in rests:
                return False
            arcs.append((unknown, rests[key]))
    # From an unknown with a reason there is just one way on, so it ends at one without, unless it is a ring.
    return find_ring(system[0], arcs) is None


def _rests(system, heights, forces):
    """Return a dict from each (unknown, word, number) that fits to the other unknown of this bound or pull."""
    rests = {}
    for (start, end, gap), word, number in supporting_bounds(system, forces):
        if heights[end] == heights[start] + gap:
            rests[(end, word, number)] = start
    return rests

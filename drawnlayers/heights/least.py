"""Least heights, and the rings of bounds that leave no heights."""

from drawnlayers.base.rings import find_ring
from drawnlayers.errors import RisingRing


def rising_ring(system):
    """Return a rising ring of the bounds, or None if there is none."""
    return climb(system)[2]


def least_heights(system):
    """Return the heights that keep all bounds, each unknown as low as it can be."""
    heights, _, ring = climb(system)
    if ring is not None:
        raise RisingRing(ring)
    return heights


def climb(system):
    """Lift unknowns from 0 until all bounds are kept.

    Return (heights, lifters, None), where the lifter of an unknown is the number of the bound that
    lifted it last, or None; or (None, None, ring) with a rising ring, if this does not come to an end.
    """
    count, bounds = system[0], system[1]
    heights = [0] * count
    lifters = [None] * count
    # Without a rising ring, every unknown is lifted over at most count - 1 bounds, so the last round changes nothing.
    for _ in range(count + 1):
        changed = False
        for number, (start, end, gap) in enumerate(bounds):
            if heights[start] + gap > heights[end]:
                heights[end] = heights[start] + gap
                lifters[end] = number
                changed = True
        if not changed:
            return (tuple(heights), tuple(lifters), None)
    return (None, None, _ring_of_lifters(system, lifters))


def _ring_of_lifters(system, lifters):
    """Return the ring in which the lifters lifted each other; its gaps have a positive sum."""
    used = [number for number in lifters if number is not None]
    ring = find_ring(system[0], [system[1][number][:2] for number in used])
    return tuple([used[at] for at in ring])

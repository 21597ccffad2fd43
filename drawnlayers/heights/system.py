"""Systems of bounds and pulls; heights and forces in them."""


def keeps(system, heights):
    """Tell whether the heights keep all bounds of the system."""
    return all([heights[end] - heights[start] >= gap for start, end, gap in system[1]])


def cost(system, heights):
    """Return what the pulls of the system cost at these heights."""
    return sum([weight * abs(heights[end] - heights[start] - gap) for start, end, gap, weight in system[2]])


def is_balanced(system, forces):
    """Tell whether the forces keep their limits and balance at each unknown."""
    count, bounds, pulls = system
    pull_forces, bound_forces = forces
    if any([abs(force) > pull[3] for pull, force in zip(pulls, pull_forces)]):
        return False
    if any([force < 0 for force in bound_forces]):
        return False
    return _net_forces(count, pulls, pull_forces) == _net_forces(count, bounds, bound_forces)


def worth(system, forces):
    """Return the worth of forces."""
    pull_forces, bound_forces = forces
    gain = sum([bound[2] * force for bound, force in zip(system[1], bound_forces)])
    return gain - sum([pull[2] * force for pull, force in zip(system[2], pull_forces)])


def _net_forces(count, threads, forces):
    """Return for each unknown the forces that end there less those that start there."""
    found = [0] * count
    for thread, force in zip(threads, forces):
        found[thread[0]] -= force
        found[thread[1]] += force
    return found

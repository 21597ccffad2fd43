"""Heights of the least cost."""

from drawnlayers.heights.forces import best_forces, supporting_bounds
from drawnlayers.heights.least import least_heights


def best_heights(system):
    """Return the best heights of the system, each unknown as low as it can be in any best heights."""
    forces = best_forces(system, least_heights(system))
    bounds = tuple([entry[0] for entry in supporting_bounds(system, forces)])
    return least_heights((system[0], bounds, ()))

"""Better lifts, which show that heights are not the best ones."""

from drawnlayers.heights.best import best_heights


def better_lift(system, heights):
    """Return unknowns, ascending, which it is better to lift by 1 all together, or None if there are none."""
    # Some of these lifts may be greater than 1. But to lift all these unknowns by just 1 is better than to lift none:
    # otherwise all lifts could be less by 1, as far as they are not 0, and would be as good and not as high.
    lifts = best_heights(_lift_system(system, heights))
    lifted = tuple([unknown for unknown, lift in enumerate(lifts) if lift > 0])
    return lifted if lifted else None


def _lift_system(system, heights):
    """Return a system whose heights are how far each unknown is lifted.

    As long as a length changes by 1 at most, only bounds without slack can break, and a pull that is not at its gap
    costs the more or the less, the longer it is: as much as one of equal weight whose gap is -1 or 1.
    """
    bounds = [(start, end, 0) for start, end, gap in system[1] if heights[end] - heights[start] == gap]
    pulls = []
    for start, end, gap, weight in system[2]:
        slack = heights[end] - heights[start] - gap
        pulls.append((start, end, _away_from(slack), weight))
    return (system[0], tuple(bounds), tuple(pulls))


def _away_from(slack):
    """Return the gap to which a pull with this slack pulls, when the length that it has is taken for 0."""
    if slack > 0:
        return -1
    return 1 if slack < 0 else 0

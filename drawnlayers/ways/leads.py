"""Leads: how ways go from one level to the next one."""

from drawnlayers.ways.ratios import Ratio


class Lead:
    """How a way goes from x0 at the lower edge of a level to x1 at the upper edge of the next one."""

    def __init__(self, x0, x1):
        self.x0 = x0
        self.x1 = x1

    def __call__(self, share):
        return _x_at(self.x0, self.x1, share)

    def meeting(self, other):
        """Return the share and the x at which two leads meet strictly between the levels, or None."""
        before = other.x0 - self.x0
        behind = other.x1 - self.x1
        if before * behind >= 0:
            return None
        share = Ratio(before, before - behind)
        return (share, _x_at(self.x0, self.x1, share))


def _x_at(x0, x1, share):
    return Ratio(x1 - x0) * share + x0

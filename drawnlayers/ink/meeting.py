"""Where the marks of an ink cross."""

from drawnlayers.ways.leads import Lead


def crossings_of(ink):
    """Return the list of the crossings (first, second, share, x), in ascending order of the two marks."""
    curves = [mark for mark in ink if mark[0] == "curve"]
    lines = [mark for mark in ink if mark[0] == "line"]
    found = []
    for at, curve in enumerate(curves):
        for other in curves[at + 1:]:
            if curve[2] == other[2] and curve[4] == other[4]:
                found.extend(_crossing(curve, other, Lead(other[1], other[3])))
        for line in lines:
            if line[2] <= curve[2] and line[3] >= curve[4]:
                found.extend(_crossing(curve, line, Lead(line[1], line[1])))
    return found


def _crossing(curve, other, lead):
    """Return a list with the crossing of a curve and another mark, which goes like the lead, or an empty list."""
    meeting = Lead(curve[1], curve[3]).meeting(lead)
    return [] if meeting is None else [(curve, other, *meeting)]

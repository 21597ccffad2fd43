"""What lies along an edge in the net of its graph."""


def segments_along(plan, edge):
    """Return the numbers of the segments of an edge, from its upper end to its lower one; a loop has none."""
    return [number for number, carrier in enumerate(plan["carriers"]) if carrier == edge]


def places_along(plan, edge):
    """Return the places of an edge that is not a loop: its upper end, its stations in order, and its lower end."""
    segments = [plan["segments"][number] for number in segments_along(plan, edge)]
    return [segments[0][0]] + [lower for _, lower in segments]

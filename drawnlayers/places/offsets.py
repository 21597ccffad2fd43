"""Where segments are attached to their ends."""

from drawnlayers.net.levels import place_indexes
from drawnlayers.places.sizes import box_sizes, full_widths


def offsets(graph, plan, inner):
    """Return for each segment the pair of its upper and its lower offset."""
    boxes = [size[0] for size in box_sizes(graph, plan, inner)]
    widths = full_widths(graph, plan, inner)
    indexes = place_indexes(plan["orders"])
    found = []
    for number, ends in enumerate(plan["segments"]):
        pair = []
        for side, place in enumerate(ends):
            if place < len(boxes):
                pair.append(_offset_at_box(plan, indexes, number, side, boxes[place]))
            else:
                # Stations that are no notes have the width 0, and so the offset 0.
                pair.append(widths[place] // 2)
        found.append(tuple(pair))
    return tuple(found)


def _offset_at_box(plan, indexes, number, side, width):
    """Return how far from the left side of a box a segment is attached; side 0 is its upper end, side 1 its lower one.

    Segments at the same side of a box are attached in the order in which their other ends stand.
    """
    segments, carriers = plan["segments"], plan["carriers"]
    place = segments[number][side]
    rows = []
    for at, ends in enumerate(segments):
        if ends[side] == place:
            rows.append((indexes[ends[1 - side]], carriers[at], at))
    row = (indexes[segments[number][1 - side]], carriers[number], number)
    before = len([other for other in rows if other < row])
    return (before + 1) * width // (len(rows) + 1)

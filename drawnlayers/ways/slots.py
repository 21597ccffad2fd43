"""Where an edge may pass a level."""

from drawnlayers.places.sizes import note_of
from drawnlayers.ways.spans import Span


def slot_of(graph, plan, layout, place):
    """Return the span of the numbers at which the edge of a station may pass its level."""
    x = layout["positions"][place]
    if note_of(graph, plan, place) is not None:
        return Span.at(x + layout["widths"][place] // 2)
    order = plan["orders"][plan["levels"][place]]
    at = order.index(place)
    left = x
    if at > 0:
        left = _room_to_the_left(graph, plan, layout, (order[at - 1], place))
    right = layout["width"] - x
    if at < len(order) - 1:
        right = _room_to_the_right(graph, plan, layout, (place, order[at + 1]))
    return Span(x - left, x + right)


def _room_to_the_left(graph, plan, layout, pair):
    """Return how far to the left of its position the right one of two neighbours, a bare station, may be passed."""
    room = _room_between(graph, layout, pair)
    # Of the room between two bare stations, the left one has the lesser half.
    return room - room // 2 if _is_bare(graph, plan, pair[0]) else room


def _room_to_the_right(graph, plan, layout, pair):
    """Return how far to the right of its position the left one of two neighbours, a bare station, may be passed."""
    room = _room_between(graph, layout, pair)
    return room // 2 if _is_bare(graph, plan, pair[1]) else room


def _room_between(graph, layout, pair):
    """Return by how much two neighbours are farther apart than they must be."""
    left, right = pair
    positions = layout["positions"]
    return positions[right] - positions[left] - layout["widths"][left] - graph[0][0]


def _is_bare(graph, plan, place):
    """Tell whether the place is a station and not a note."""
    return plan["owners"][place][0] == "station" and note_of(graph, plan, place) is None

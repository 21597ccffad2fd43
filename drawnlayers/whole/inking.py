"""The marks with which a graph is drawn."""

from drawnlayers.graph.graphs import shown_label
from drawnlayers.ink.marks import moved_mark
from drawnlayers.net.along import places_along
from drawnlayers.places.levels import level_floors
from drawnlayers.places.sizes import note_of


def graph_marks(graph, plan, layout, origin):
    """Return the list of the marks of a graph, without those of its lots' insides, in ascending order."""
    marks = []
    for number, item in enumerate(graph[1]):
        marks.extend(_item_marks(item, layout["boxes"][number]))
        marks.extend(_loop_marks(graph, layout, number))
    for number, stops in enumerate(layout["ways"]):
        if stops is not None:
            marks.extend(_edge_marks(graph, plan, layout, number))
    dx, dy = origin
    return sorted([moved_mark(mark, dx, dy) for mark in marks])


def _item_marks(item, box):
    """Return the box or the frame of an item, and its shown label if it is not empty."""
    x, y, w, h = box
    label = shown_label(item)
    at = (x + (w - len(label)) // 2, y + (h - 1) // 2) if item[4] is None else (x + 1, y + 1)
    marks = [("box" if item[4] is None else "frame", *box)]
    if label != "":
        marks.append(("text", *at, label))
    return marks


def _loop_marks(graph, layout, number):
    """Return the loops at an item; each one lies around those that come before it."""
    x, y, w, _ = layout["boxes"][number]
    many = len([edge for edge in graph[3] if edge[0] == number and edge[1] == number])
    return [("loop", x + w, y + many - j, y + many + 1 + j, 2 * (j + 1)) for j in range(many)]


def _edge_marks(graph, plan, layout, number):
    """Return the marks of an edge that is not a loop."""
    places = places_along(plan, number)
    stops = layout["ways"][number]
    tops = [layout["tops"][plan["levels"][place]] for place in places]
    notes = [place for place in places if note_of(graph, plan, place) is not None]
    lower_side = tops[0] + layout["heights"][places[0]]
    # A note takes the first row of its level.
    begins = [lower_side] + [top + 1 if place in notes else top for place, top in zip(places[1:], tops[1:])]
    floors = level_floors(plan, layout["tops"], layout["heights"])
    ends = [floors[plan["levels"][place]] for place in places]
    marks = _pieces(stops, begins, ends, tops)
    for place in notes:
        marks.append(("note", layout["positions"][place], layout["tops"][plan["levels"][place]], graph[3][number][2]))
    if number in plan["turned"]:
        marks.append(("head", stops[0], lower_side, "up"))
    else:
        marks.append(("head", stops[-1], tops[-1], "down"))
    return marks


def _pieces(stops, begins, ends, tops):
    """Return the lines and curves of an edge with these stops.

    At each stop but the last, the edge is upright from where it begins there to where it ends, the floor of the level;
    then it goes on to the top of the next level.
    """
    stretches = []
    curves = []
    for at in range(len(stops) - 1):
        stretches.append((stops[at], begins[at], ends[at]))
        if stops[at] == stops[at + 1]:
            stretches.append((stops[at], ends[at], tops[at + 1]))
        else:
            curves.append(("curve", stops[at], ends[at], stops[at + 1], tops[at + 1]))
    return curves + [("line", *stretch) for stretch in _joined_stretches(stretches) if stretch[1] < stretch[2]]


def _joined_stretches(stretches):
    """Join each upright stretch to the one before where they touch each other."""
    found = []
    for x, begin, end in stretches:
        if found and found[-1][0] == x and found[-1][2] == begin:
            begin = found.pop()[1]
        found.append((x, begin, end))
    return found

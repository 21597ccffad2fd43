"""How large boxes and notes are."""

from drawnlayers.graph.graphs import shown_label


def box_sizes(graph, plan, inner):
    """Return for each item the triple of its box width, its box height and its full width."""
    return tuple([_box_size(graph, plan, inner, number) for number in range(len(graph[1]))])


def note_of(graph, plan, place):
    """Return the label that a place shows as the note of its edge, or None if it is no note."""
    owner = plan["owners"][place]
    if owner[0] == "item":
        return None
    edge = graph[3][owner[1]]
    # The level half way between the ends; of two such levels, the upper one.
    middle = (plan["levels"][edge[0]] + plan["levels"][edge[1]]) // 2
    return edge[2] if edge[2] != "" and plan["levels"][place] == middle else None


def full_widths(graph, plan, inner):
    """Return the full width of each place."""
    sizes = box_sizes(graph, plan, inner)
    stations = range(len(sizes), len(plan["levels"]))
    return tuple([size[2] for size in sizes] + [_station_width(note_of(graph, plan, place)) for place in stations])


def _station_width(label):
    return 0 if label is None else len(label) + 2


def _box_size(graph, plan, inner, number):
    item = graph[1][number]
    ups = len([lower for _, lower in plan["segments"] if lower == number])
    downs = len([upper for upper, _ in plan["segments"] if upper == number])
    loops = len([edge for edge in graph[3] if edge[0] == number and edge[1] == number])
    letters = len(shown_label(item))
    widths = [item[2], ups + 1, downs + 1]
    heights = [item[3], 2 * loops + 1]
    if letters > 0:
        widths.append(letters + 2)
        heights.append(3)
    if item[4] is not None:
        width, height = inner[item[0]]
        margin = item[4][0][2]
        widths.append(width + 2 * margin)
        # The label of a lot has a row of its own above the inner graph.
        heights.append(height + 2 * margin + min(letters, 1))
    return (max(widths), max(heights), max(widths) + 2 * loops)

"""Reading boxes and edges back from an ink."""

from drawnlayers.ink.follow import follow
from drawnlayers.ink.marks import PIECES, begin_of, end_of


def read_back(ink):
    """Return the rectangles of an ink, with their labels and holders, and its edges."""
    rows = sorted([(mark[1], mark[2], mark[3], mark[4], mark[0]) for mark in ink if mark[0] in ("box", "frame")])
    labels = _labels(ink, rows)
    rectangles = [(*row, labels.get(number, ""), _holder(rows, number)) for number, row in enumerate(rows)]
    edges = sorted(_edges_of_ways(ink, rows) + _edges_of_loops(ink, rows))
    return (tuple(rectangles), tuple(edges))


def _holds_point(row, point):
    x, y, w, h, _ = row
    return x <= point[0] <= x + w and y <= point[1] <= y + h


def _holds(row, other):
    """Tell whether a rectangle holds another one."""
    x, y, w, h, _ = other
    return _holds_point(row, (x, y)) and _holds_point(row, (x + w, y + h))


def _smallest(rows, numbers):
    """Return the number of the rectangle with the least area among those with these numbers, or None."""
    sizes = [(rows[number][2] * rows[number][3], number) for number in numbers]
    return min(sizes)[1] if sizes else None


def _holder(rows, number):
    """Return the number of the smallest frame that holds a rectangle, other than itself, or None."""
    frames = [at for at, row in enumerate(rows) if row[4] == "frame" and at != number]
    return _smallest(rows, [at for at in frames if _holds(rows[at], rows[number])])


def _labels(ink, rows):
    """Return a dict from the numbers of the rectangles that have a label to their labels."""
    labels = {}
    for mark in ink:
        if mark[0] == "text":
            holder = _smallest(rows, [at for at, row in enumerate(rows) if _holds_point(row, mark[1:3])])
            if holder is not None:
                labels[holder] = mark[3]
    return labels


def _edges_of_ways(ink, rows):
    """Return the edges (tail, head, label) that are drawn from one rectangle to another one."""
    edges = []
    for mark in ink:
        if mark[0] in PIECES:
            begin = begin_of(mark)
            for number in _rectangles_at(rows, begin, 1):
                edges.extend(_edges_of_way(ink, rows, number, begin))
    return edges


def _rectangles_at(rows, point, side):
    """Return the numbers of the rectangles on whose upper side (0) or lower side (1) the point is, between corners."""
    px, py = point
    return [at for at, (x, y, w, h, _) in enumerate(rows) if x < px < x + w and py == y + side * h]


def _edges_of_way(ink, rows, first, begin):
    """Return the edges that the way from a point on the lower side of a rectangle draws."""
    x, y = begin
    pieces = list(follow(ink, x, y))
    notes = [piece[3] for piece in pieces if piece[0] == "note"]
    label = notes[0] if notes else ""
    end = end_of(pieces[-1])
    edges = []
    for last in _rectangles_at(rows, end, 0):
        if ("head", *end, "down") in ink:
            edges.append((first, last, label))
        if ("head", *begin, "up") in ink:
            edges.append((last, first, label))
    return edges


def _edges_of_loops(ink, rows):
    """Return the edges that are drawn as loops."""
    loops = [mark for mark in ink if mark[0] == "loop"]
    return [
        (at, at, "")
        for _, right, y0, _, _ in loops
        for at, (x, y, w, h, _) in enumerate(rows)
        if x + w == right and y <= y0 <= y + h
    ]

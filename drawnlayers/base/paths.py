"""Paths along arcs."""


def shortest_path(arcs, start, goal):
    """Return the numbers of the fewest arcs that lead from start to goal, as a tuple, or None if none do."""
    paths = {start: ()}
    latest = {start: True}
    while latest and goal not in paths:
        found = {}
        for number, (begin, end) in enumerate(arcs):
            if begin in latest and end not in paths:
                found[end] = (*paths[begin], number)
        paths.update(found)
        latest = found
    return paths.get(goal)


def part_marks(count, arcs):
    """Return for each number below count the least number to which the arcs join it, in either direction."""
    marks = list(range(count))
    for start, end in arcs:
        kept = min(marks[start], marks[end])
        gone = max(marks[start], marks[end])
        marks = [kept if mark == gone else mark for mark in marks]
    return marks

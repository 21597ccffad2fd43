"""Following an ink, piece by piece."""

from drawnlayers.ink.marks import PIECES, begin_of, end_of


def follow(ink, x, y):
    """Yield the pieces that are met from the point (x, y) on: the least piece there, the least one at its end, ..."""
    firsts = {}
    for mark in ink:
        if mark[0] in PIECES and begin_of(mark) not in firsts:
            firsts[begin_of(mark)] = mark
    point = (x, y)
    while point in firsts:
        yield firsts[point]
        point = end_of(firsts[point])

"""Full nets, and the orders without a crossing that can be read from them.

Every pair of a net has a mark. Pairs have the same mark if they are tied straight, so the left one of the places
can be chosen mark by mark. As long as no pair has the same mark as the pair turned about, there is no exchange.
"""

from drawnlayers.errors import Crossed
from drawnlayers.net.exchange import find_exchange
from drawnlayers.net.levels import places_by_level
from drawnlayers.net.search import turned_about


def filled(net):
    """Return a full net with the places and the segments of this one."""
    return (net[0], _full_strips(net)[0])


def uncrossed_orders(net):
    """Return orders of the net without a crossing."""
    marks = _full_strips(net)[1]
    return tuple([_order_by_marks(row, marks) for row in places_by_level(net)])


def _full_strips(net):
    """Return the segments of a full net in ascending order, and the marks of its pairs."""
    walk = find_exchange(net)
    if walk is not None:
        raise Crossed(walk)
    rows = places_by_level(net)
    marks = _first_marks(rows)
    strips = [[] for _ in rows]
    further = [(upper, lower) for at, lowers in enumerate(rows[1:]) for upper in rows[at] for lower in lowers]
    # All segments that are given come first. What cannot be added then can never be added later, as more segments
    # only tie more pairs.
    for segment in [*net[1], *further]:
        strip = strips[net[0][segment[0]]]
        joined = _joined_marks(marks, segment, strip) if segment not in strip else None
        if joined is not None:
            strip.append(segment)
            marks = joined
    return (tuple(sorted([added for row in strips for added in row])), marks)


def _first_marks(rows):
    """Return marks that are all different; the mark of (a, b) is less than that of (b, a) if a is less than b."""
    pairs = [(a, b) for row in rows for a in row for b in row if a != b]
    return {pair: mark for mark, pair in enumerate(pairs)}


def _joined_marks(marks, segment, strip):
    """Return the marks when a segment stands beside those of its strip, or None if there is an exchange then."""
    for other in strip:
        first = (segment[0], other[0])
        second = (segment[1], other[1])
        if first[0] != first[1] and second[0] != second[1]:
            marks = _merged(marks, first, second)
            marks = _merged(marks, turned_about(first), turned_about(second))
            if marks[first] == marks[turned_about(first)]:
                return None
    return marks


def _merged(marks, first, second):
    """Return marks in which two pairs, and all that have the same mark as one of them, have the same mark."""
    kept = min(marks[first], marks[second])
    gone = max(marks[first], marks[second])
    if kept == gone:
        return marks
    return {pair: kept if marks[pair] == gone else marks[pair] for pair in marks}


def _order_by_marks(row, marks):
    """Return the places of a level from left to right: a stands left of b if (a, b) has a lesser mark than (b, a).

    In a full net all pairs of a level that any step leaves have one of two marks, so they are chosen all alike. Two
    places whose pair no step leaves have the same others to their left, and stand as they were numbered.
    """
    ranked = [(len([b for b in row if b != a and marks[(b, a)] < marks[(a, b)]]), a) for a in row]
    return tuple([a for _, a in sorted(ranked)])

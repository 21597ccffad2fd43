"""Crossings of orders, counted by sorting."""

from drawnlayers.net.levels import place_indexes


def crossings_by_sorting(net, orders):
    """Return the number of pairs of segments that cross."""
    levels, segments = net
    indexes = place_indexes(orders)
    total = 0
    for level in range(len(orders) - 1):
        rows = sorted([(indexes[upper], indexes[lower]) for upper, lower in segments if levels[upper] == level])
        total += _sorted_and_exchanged([row[1] for row in rows])[1]
    return total


def _sorted_and_exchanged(numbers):
    """Return the numbers in ascending order, and how many two of them stood the other way round."""
    many = len(numbers)
    if many < 2:
        return (numbers, 0)
    left, count_left = _sorted_and_exchanged(numbers[:many // 2])
    right, count_right = _sorted_and_exchanged(numbers[many // 2:])
    exchanged = count_left + count_right
    merged = []
    taken = 0
    for number in right:
        while taken < len(left) and left[taken] <= number:
            merged.append(left[taken])
            taken += 1
        # All numbers that are left on the left side are greater than this one and stood before it.
        exchanged += len(left) - taken
        merged.append(number)
    return (merged + left[taken:], exchanged)

"""Points 53 and 56."""

import itertools
import random
import unittest

from drawnlayers.orders.medians import median_order, start_orders
from helpers import crossings_by_words, great_nets, level_rows, random_orders, small_nets
from test_exchange import CROSSED


def median_by_words(net, orders, place):
    """The median of a place and the number of its segments to the level before."""
    before = orders[net[0][place] - 1]
    numbers = sorted(before.index(upper) for upper, lower in net[1] if lower == place)
    j = len(numbers)
    return (numbers[(j - 1) // 2] if j else -1), j


def median_order_by_words(net, orders, level):
    """Point 53, straight: whether each two places that follow one another stand as they should."""
    def stands_before(place, other):
        median, many = median_by_words(net, orders, place)
        other_median, other_many = median_by_words(net, orders, other)
        if median != other_median:
            return median < other_median
        if many % 2 != other_many % 2:
            return many % 2 == 1
        return place < other

    found = []
    for place in level_rows(net)[level]:
        at = sum(stands_before(other, place) for other in found)
        found.insert(at, place)
    return tuple(found)


class MediansTest(unittest.TestCase):
    def test_the_example(self):
        self.assertEqual(median_order(CROSSED, ((0, 1), (2, 3)), 1), (2, 3))
        self.assertEqual(start_orders(CROSSED), ((0, 1), (2, 3)))

    def test_ascending_medians(self):
        net = ((0, 0, 0, 1, 1, 1), ((0, 5), (1, 3), (2, 4)))
        self.assertEqual(median_order(net, ((0, 1, 2), (3, 4, 5)), 1), (5, 3, 4))
        self.assertEqual(median_order(net, ((2, 0, 1), (3, 4, 5)), 1), (4, 5, 3))

    def test_the_median_of_one_to_five_segments(self):
        # The place 7 stands at 2 only, so it stands before or behind the place 8 with its median.
        levels = (0,) * 7 + (1, 1)
        before = ((0, 1, 2, 3, 4, 5, 6), (7, 8))
        for uppers, median in (
            ((3,), 3), ((0, 6), 0), ((2, 3), 2), ((0, 1, 6), 1), ((0, 1, 5, 6), 1), ((0, 3, 4, 6), 3), ((0, 1, 4, 5, 6), 4),
            ((1, 1, 5), 1), ((0, 5, 5), 5), ((0, 0, 6, 6), 0), ((5, 6, 6, 6), 6),
        ):
            for other in range(7):
                net = (levels, tuple((upper, 7) for upper in uppers) + ((other, 8),))
                is_first = median < other or (median == other and len(uppers) % 2 == 1)
                self.assertEqual(median_order(net, before, 1), (7, 8) if is_first else (8, 7), (uppers, other))

    def test_places_without_segments_come_first(self):
        net = ((0, 0, 1, 1, 1, 1), ((0, 3), (1, 5)))
        self.assertEqual(median_order(net, ((0, 1), (2, 3, 4, 5)), 1), (2, 4, 3, 5))
        self.assertEqual(median_order(((0, 1, 1), ()), ((0,), (2, 1)), 1), (1, 2))

    def test_equal_medians_with_odd_and_even_numbers(self):
        net = ((0, 0, 1, 1, 1, 1), ((0, 2), (1, 2), (0, 3), (0, 4), (1, 4), (0, 5)))
        self.assertEqual(median_order(net, ((0, 1), (2, 3, 4, 5)), 1), (3, 5, 2, 4))
        self.assertEqual(median_order(net, ((1, 0), (2, 3, 4, 5)), 1), (2, 4, 3, 5))

    def test_segments_that_stand_twice(self):
        net = ((0, 0, 1, 1), ((0, 2), (0, 2), (0, 3), (0, 3), (0, 3)))
        self.assertEqual(median_order(net, ((0, 1), (2, 3)), 1), (3, 2))
        net = ((0, 0, 1, 1), ((0, 2), (1, 2), (1, 2), (0, 3), (1, 3)))
        self.assertEqual(median_order(net, ((0, 1), (2, 3)), 1), (3, 2))

    def test_only_the_level_before_matters(self):
        net = ((0, 1, 1, 2, 2, 3, 3), ((0, 1), (0, 2), (1, 4), (2, 3), (3, 5), (4, 6)))
        for order, last in itertools.product(((3, 4), (4, 3)), ((5, 6), (6, 5))):
            self.assertEqual(median_order(net, ((0,), (1, 2), order, last), 2), (4, 3))
            self.assertEqual(median_order(net, ((0,), (2, 1), order, last), 2), (3, 4))

    def test_start_orders(self):
        self.assertEqual(start_orders(((), ())), ())
        self.assertEqual(start_orders(((0, 0, 0), ())), ((0, 1, 2),))
        self.assertEqual(start_orders(((1, 0, 2, 1, 0, 2), ((1, 3), (4, 0), (3, 5), (0, 2)))), ((1, 4), (3, 0), (5, 2)))

    def test_against_the_words(self):
        source = random.Random(53)
        for net in (*small_nets(150, seed=53), *great_nets(30, seed=53)):
            orders = random_orders(source, net)
            for level in range(1, len(orders)):
                found = median_order(net, orders, level)
                self.assertIsInstance(found, tuple)
                self.assertEqual(found, median_order_by_words(net, orders, level))
            begun = start_orders(net)
            rows = level_rows(net)
            self.assertEqual([tuple(sorted(order)) for order in begun], rows)
            self.assertEqual(begun[:1], tuple(rows[:1]))
            for level in range(1, len(begun)):
                self.assertEqual(begun[level], median_order_by_words(net, begun, level))

    def test_at_most_three_times_as_many_crossings(self):
        source = random.Random(54)
        some = 0
        for _ in range(60):
            first, second = source.randint(1, 6), source.randint(1, 5)
            pairs = [(upper, first + lower) for upper in range(first) for lower in range(second)]
            net = ((0,) * first + (1,) * second, tuple(source.sample(pairs, source.randint(0, min(13, len(pairs))))))
            before = tuple(source.sample(range(first), first))
            found = median_order(net, (before, tuple(range(first, first + second))), 1)
            many = crossings_by_words(net, (before, found))
            least = min(crossings_by_words(net, (before, order)) for order in itertools.permutations(found))
            self.assertLessEqual(many, 3 * least)
            some += many > least
        self.assertGreater(some, 0)


if __name__ == "__main__":
    unittest.main()

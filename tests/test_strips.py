"""Points 44, 47 and 48, with point 42 and the example of point 50."""

import random
import unittest

from drawnlayers.errors import Crossed
from drawnlayers.net.exchange import find_exchange
from drawnlayers.net.strips import filled, uncrossed_orders
from helpers import crossings_by_words, great_nets, level_rows, random_strips, small_nets
from test_exchange import BESIDE, CROSSED, can_be_uncrossed, is_exchange_by_words


def is_full(net):
    """Point 48, word by word."""
    if find_exchange(net) is not None or len(set(net[1])) < len(net[1]):
        return False
    rows = level_rows(net)
    for uppers, lowers in zip(rows, rows[1:]):
        for segment in [(upper, lower) for upper in uppers for lower in lowers]:
            if segment not in net[1] and find_exchange((net[0], net[1] + (segment,))) is None:
                return False
    return True


class StripsTest(unittest.TestCase):
    def assert_filled(self, net, searched=True):
        found = filled(net)
        self.assertIsInstance(found, tuple)
        levels, segments = found
        self.assertEqual(levels, net[0])
        self.assertIsInstance(segments, tuple)
        self.assertTrue(set(net[1]) <= set(segments), (net, found))
        self.assertEqual(list(segments), sorted(set(segments)))
        rows = level_rows(net)
        for level, (uppers, lowers) in enumerate(zip(rows, rows[1:])):
            strip = [segment for segment in segments if levels[segment[0]] == level]
            self.assertEqual(len(strip), len(uppers) + len(lowers) - 1)
            self.assertTrue(all(upper in uppers and lower in lowers for upper, lower in strip))
        self.assertEqual(len(segments), sum(len(one) + len(other) - 1 for one, other in zip(rows, rows[1:])))
        self.assertIsNone(find_exchange(found))
        self.assertEqual(filled(found), found)
        if searched:
            self.assertTrue(is_full(found))

    def assert_orders(self, net):
        orders = uncrossed_orders(net)
        self.assertIsInstance(orders, tuple)
        self.assertTrue(all(isinstance(order, tuple) for order in orders))
        self.assertEqual([tuple(sorted(order)) for order in orders], level_rows(net))
        self.assertEqual(crossings_by_words(net, orders), 0, (net, orders))

    def assert_crossed(self, net):
        for call in (filled, uncrossed_orders):
            with self.assertRaises(Crossed) as caught:
                call(net)
            self.assertTrue(is_exchange_by_words(net, caught.exception.walk), net)

    def assert_fits(self, net):
        self.assert_filled(net)
        self.assert_orders(net)

    def test_the_example(self):
        self.assert_crossed(CROSSED)
        self.assertIn(filled(BESIDE)[1], (((0, 2), (0, 3), (1, 3)), ((0, 2), (1, 2), (1, 3))))
        self.assert_fits(BESIDE)
        self.assertTrue(is_full((BESIDE[0], ((0, 2), (0, 3), (1, 3)))))
        self.assertFalse(is_full(BESIDE))

    def test_no_places_and_one_level(self):
        self.assertEqual(filled(((), ())), ((), ()))
        self.assertEqual(uncrossed_orders(((), ())), ())
        self.assertEqual(filled(((0,), ())), ((0,), ()))
        self.assertEqual(uncrossed_orders(((0,), ())), ((0,),))
        self.assertEqual(filled(((0, 0, 0), ())), ((0, 0, 0), ()))
        self.assert_fits(((0,) * 7, ()))

    def test_no_segments(self):
        self.assertEqual(filled(((0, 1), ())), ((0, 1), ((0, 1),)))
        self.assertEqual(filled(((1, 0, 0), ())), ((1, 0, 0), ((1, 0), (2, 0))))
        self.assert_fits(((0, 1, 2, 0, 1, 2, 0, 1, 2), ()))
        self.assert_fits(((0, 0, 1, 2, 2, 3, 3, 3), ()))

    def test_segments_that_stand_twice(self):
        self.assert_fits((BESIDE[0], ((1, 3), (0, 2)) * 6))
        self.assert_crossed((CROSSED[0], CROSSED[1] * 3))

    def test_ascending_order_over_all_levels(self):
        # The places of the last level have the least numbers here.
        net = ((2, 2, 1, 1, 0, 0), ((5, 3), (2, 1), (4, 2)))
        self.assert_fits(net)

    def test_segments_of_lower_levels_stay_when_upper_ones_are_filled(self):
        # What is added between the levels 0 and 1 must leave room for (4, 6).
        self.assert_fits(((0, 2, 1, 1, 1, 0, 2), ((0, 2), (2, 1), (4, 6), (3, 6), (5, 4), (5, 2))))

    def test_places_of_one_level_with_the_same_neighbours(self):
        self.assert_fits(((0, 1, 1, 1, 1, 2), ((0, 1), (0, 2), (0, 3), (0, 4), (1, 5), (2, 5), (3, 5), (4, 5))))
        self.assert_fits(((0, 1, 1, 1, 1, 2, 2), ((0, 1), (0, 2), (0, 3), (0, 4), (1, 5), (3, 5), (2, 6), (4, 6))))
        self.assert_fits(((0, 0, 1, 1, 1, 1, 2, 2), ((0, 2), (0, 5), (1, 3), (1, 4), (5, 6), (3, 6), (4, 7))))

    def test_a_net_that_only_one_order_and_its_reverse_fit(self):
        source = random.Random(48)
        for _ in range(20):
            net = random_strips(source, [7, 7])
            self.assertEqual(filled(net), (net[0], tuple(sorted(net[1]))))
            self.assert_fits(net)

    def test_several_connected_parts(self):
        self.assert_fits(((0, 0, 0, 1, 1, 1, 2, 2, 2), ((0, 3), (1, 4), (2, 5), (5, 6), (4, 7), (3, 8))))
        self.assert_fits(((0, 1, 2, 3, 1, 2, 1), ((0, 1), (1, 2), (2, 3), (4, 5))))
        # One part must stand within the other one.
        self.assert_fits(((0, 1, 1, 2, 1), ((0, 1), (0, 2), (1, 3), (2, 3))))

    def test_against_a_search_through_all_orders(self):
        answers = {True: 0, False: 0}
        for net in small_nets(500, seed=48):
            fits = can_be_uncrossed(net)
            answers[fits] += 1
            if fits:
                self.assert_fits(net)
            else:
                self.assert_crossed(net)
        self.assertGreater(min(answers.values()), 40)

    def test_nets_at_the_bounds(self):
        answers = {True: 0, False: 0}
        for net in great_nets(80, seed=48):
            fits = find_exchange(net) is None
            answers[fits] += 1
            if fits:
                self.assert_filled(net, searched=False)
                self.assert_orders(net)
            else:
                self.assert_crossed(net)
        self.assertGreater(min(answers.values()), 15)

    def test_full_nets_at_the_bounds_word_by_word(self):
        source = random.Random(482)
        for sizes in ([7, 7, 7, 7, 7, 1], [6] * 6, [3, 7, 5, 7, 7, 7]):
            self.assert_fits(random_strips(source, sizes, 0.6))

    def test_broken_strips_of_all_shapes(self):
        source = random.Random(483)
        for _ in range(150):
            sizes = [source.randint(1, 7) for _ in range(source.randint(1, 7))]
            while sum(sizes) > 36:
                sizes.pop()
            net = random_strips(source, sizes, source.choice((1.0, 0.8, 0.5, 0.2)))
            self.assert_filled(net, searched=False)
            self.assert_orders(net)


if __name__ == "__main__":
    unittest.main()

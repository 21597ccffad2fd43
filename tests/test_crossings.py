"""Points 51 and 52, with points 44 and 46 and the example of point 50."""

import itertools
import random
import unittest

from drawnlayers.net.exchange import find_exchange
from drawnlayers.orders.crossings import crossing_pairs, crossing_steps, crossings
from drawnlayers.orders.sorting import crossings_by_sorting
from helpers import crossings_by_words, great_nets, random_orders, small_nets
from test_exchange import BESIDE, CROSSED
from test_walkers import all_pairs, is_step


class CrossingsTest(unittest.TestCase):
    def assert_crossings(self, net, orders, wanted):
        self.assertEqual(crossings(net, orders), wanted)
        self.assertEqual(crossings_by_sorting(net, orders), wanted)
        pairs = crossing_pairs(net, orders)
        self.assertIsInstance(pairs, list)
        self.assertEqual(pairs, sorted(set(pairs)))
        self.assertEqual(len(pairs), wanted)
        for i, k in itertools.combinations(range(len(net[1])), 2):
            two = (net[0], (net[1][i], net[1][k]))
            self.assertEqual((i, k) in pairs, crossings_by_words(two, orders) == 1)

    def test_the_example(self):
        self.assert_crossings(CROSSED, ((0, 1), (2, 3)), 1)
        self.assertEqual(crossing_pairs(CROSSED, ((0, 1), (2, 3))), [(1, 2)])
        self.assertEqual(crossing_pairs(CROSSED, ((1, 0), (2, 3))), [(0, 3)])
        self.assert_crossings(BESIDE, ((0, 1), (2, 3)), 0)
        self.assert_crossings(BESIDE, ((0, 1), (3, 2)), 1)
        self.assert_crossings(BESIDE, ((1, 0), (3, 2)), 0)

    def test_no_places_and_no_segments(self):
        self.assert_crossings(((), ()), (), 0)
        self.assert_crossings(((0, 0), ()), ((1, 0),), 0)
        self.assert_crossings(((0, 0, 1), ()), ((1, 0), (2,)), 0)

    def test_segments_with_an_end_in_common(self):
        self.assert_crossings(((0, 1, 1), ((0, 1), (0, 2))), ((0,), (2, 1)), 0)
        self.assert_crossings(((0, 0, 1), ((0, 2), (1, 2))), ((1, 0), (2,)), 0)

    def test_segments_that_stand_twice(self):
        self.assert_crossings((BESIDE[0], ((0, 2), (0, 2))), ((0, 1), (2, 3)), 0)
        twice = (BESIDE[0], ((0, 2), (1, 3), (0, 2), (1, 3), (1, 3)))
        self.assert_crossings(twice, ((0, 1), (3, 2)), 6)
        self.assertEqual(crossing_pairs(twice, ((0, 1), (3, 2))), [(0, 1), (0, 3), (0, 4), (1, 2), (2, 3), (2, 4)])

    def test_segments_of_other_levels_do_not_cross(self):
        net = ((0, 0, 1, 1, 2, 2), ((0, 2), (3, 5)))
        for orders in (((0, 1), (2, 3), (4, 5)), ((0, 1), (3, 2), (5, 4)), ((1, 0), (2, 3), (5, 4))):
            self.assert_crossings(net, orders, 0)

    def test_each_two_neighbouring_levels_count(self):
        net = ((2, 2, 1, 1, 0, 0), ((4, 2), (5, 3), (2, 0), (3, 1)))
        self.assert_crossings(net, ((4, 5), (2, 3), (0, 1)), 0)
        self.assert_crossings(net, ((5, 4), (2, 3), (0, 1)), 1)
        self.assert_crossings(net, ((4, 5), (3, 2), (0, 1)), 2)
        self.assert_crossings(net, ((4, 5), (2, 3), (1, 0)), 1)

    def test_all_segments_the_other_way_round(self):
        for many in range(1, 8):
            levels = (0,) * many + (1,) * many
            segments = tuple((at, many + at) for at in range(many))
            straight = (tuple(range(many)), tuple(range(many, 2 * many)))
            self.assert_crossings((levels, segments), straight, 0)
            self.assert_crossings((levels, segments), (straight[0][::-1], straight[1]), many * (many - 1) // 2)
            self.assert_crossings((levels, segments), (straight[0][::-1], straight[1][::-1]), 0)

    def test_against_the_words(self):
        source = random.Random(51)
        for net in small_nets(200, seed=51):
            for _ in range(3):
                orders = random_orders(source, net)
                self.assert_crossings(net, orders, crossings_by_words(net, orders))

    def test_nets_at_the_bounds(self):
        source = random.Random(52)
        for net in great_nets(30, seed=51):
            orders = random_orders(source, net)
            self.assert_crossings(net, orders, crossings_by_words(net, orders))


class CrossingStepsTest(unittest.TestCase):
    def test_the_example(self):
        exchange = ((0, 1), (2, 3), (1, 0))
        self.assertEqual(crossing_steps(((0, 1), (2, 3)), exchange), 1)
        self.assertEqual(crossing_steps(((0, 1), (2, 3)), exchange[:2]), 0)
        self.assertEqual(crossing_steps(((0, 1), (2, 3)), exchange[1:]), 1)
        self.assertEqual(crossing_steps(((0, 1), (3, 2)), exchange[:2]), 1)
        self.assertEqual(crossing_steps(((0, 1), (3, 2)), exchange[1:]), 0)

    def test_a_walk_of_one_pair(self):
        self.assertEqual(crossing_steps(((0, 1), (2, 3)), ((0, 1),)), 0)
        self.assertEqual(crossing_steps(((0, 1), (2, 3)), ((3, 2),)), 0)

    def test_each_step_counts(self):
        walk = ((0, 1), (3, 2), (0, 1), (3, 2), (1, 0), (2, 3))
        self.assertEqual(crossing_steps(((0, 1), (2, 3)), walk), 4)
        self.assertEqual(crossing_steps(((1, 0), (2, 3)), walk), 1)
        self.assertEqual(crossing_steps(((0, 1), (3, 2)), walk), 1)

    def test_random_walks(self):
        source = random.Random(46)
        for net in small_nets(150, seed=46):
            pairs = all_pairs(net)
            if not pairs:
                continue
            walk = [source.choice(pairs)]
            for _ in range(source.randint(0, 8)):
                walk.extend(source.sample([pair for pair in pairs if is_step(net, walk[-1], pair)] or [walk[-1]], 1))
            walk = tuple(pair for at, pair in enumerate(walk) if at == 0 or walk[at - 1] != pair)
            orders = random_orders(source, net)

            def is_left(pair):
                order = orders[net[0][pair[0]]]
                return order.index(pair[0]) < order.index(pair[1])

            many = crossing_steps(orders, walk)
            self.assertEqual(many, sum(is_left(one) != is_left(other) for one, other in zip(walk, walk[1:])))
            self.assertEqual(many % 2 == 1, is_left(walk[0]) != is_left(walk[-1]))

    def test_exchanges_cross_an_odd_number_of_times_in_any_orders(self):
        source = random.Random(47)
        many = 0
        for net in (*small_nets(200, seed=461), *great_nets(20, seed=46)):
            walk = find_exchange(net)
            if walk is not None:
                many += 1
                for _ in range(5):
                    orders = random_orders(source, net)
                    self.assertEqual(crossing_steps(orders, walk) % 2, 1)
                    self.assertGreaterEqual(crossings(net, orders), 1)
        self.assertGreater(many, 20)


if __name__ == "__main__":
    unittest.main()

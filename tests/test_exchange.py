"""Points 45 to 47, with point 42 and the example of point 50."""

import random
import unittest

from drawnlayers.net.exchange import find_exchange
from drawnlayers.net.walkers import is_exchange
from helpers import all_orders, crossings_by_words, great_nets, random_net, random_strips, small_nets
from test_walkers import is_step

CROSSED = ((0, 0, 1, 1), ((0, 2), (0, 3), (1, 2), (1, 3)))
BESIDE = ((0, 0, 1, 1), ((0, 2), (1, 3)))


def is_exchange_by_words(net, walk):
    if not isinstance(walk, tuple) or walk[-1] != walk[0][::-1]:
        return False
    for a, b in walk:
        if a == b or net[0][a] != net[0][b]:
            return False
    return all(is_step(net, first, second) for first, second in zip(walk, walk[1:]))


def can_be_uncrossed(net):
    return any(crossings_by_words(net, orders) == 0 for orders in all_orders(net))


class ExchangeTest(unittest.TestCase):
    def assert_exchange(self, net, wanted):
        walk = find_exchange(net)
        self.assertEqual(walk is not None, wanted, net)
        if walk is not None:
            self.assertTrue(is_exchange_by_words(net, walk), (net, walk))
            self.assertTrue(is_exchange(net, walk))
            self.assertEqual(find_exchange(net), walk)

    def test_the_example(self):
        self.assert_exchange(CROSSED, True)
        self.assert_exchange(BESIDE, False)
        self.assert_exchange((BESIDE[0], BESIDE[1] + ((0, 3),)), False)
        self.assert_exchange((BESIDE[0], BESIDE[1] + ((1, 2),)), False)
        self.assert_exchange((BESIDE[0], BESIDE[1] + ((0, 3), (1, 2))), True)

    def test_no_places_one_level_and_no_segments(self):
        self.assert_exchange(((), ()), False)
        self.assert_exchange(((0,), ()), False)
        self.assert_exchange(((0,) * 7, ()), False)
        self.assert_exchange(((0, 1, 2, 0, 1, 2), ()), False)

    def test_segments_that_stand_twice(self):
        self.assert_exchange((BESIDE[0], BESIDE[1] * 6), False)
        self.assert_exchange((CROSSED[0], CROSSED[1] * 3), True)

    def test_an_exchange_over_many_levels(self):
        # Two rows of places side by side, twisted together at the far end only.
        for depth in range(1, 17):
            levels = tuple(level for level in range(depth + 1) for _ in (0, 1))
            segments = tuple((2 * level + side, 2 * level + 2 + side) for level in range(depth) for side in (0, 1))
            self.assert_exchange((levels, segments), False)
            self.assert_exchange((levels, segments + ((2 * depth - 2, 2 * depth + 1),)), False)
            twist = ((2 * depth - 2, 2 * depth + 1), (2 * depth - 1, 2 * depth))
            self.assert_exchange((levels, segments + twist), True)

    def test_an_exchange_of_three_that_turn_round(self):
        # Three places of level 1 each joined to two above and to two below, so that no order fits.
        segments = ((0, 3), (0, 4), (1, 4), (1, 5), (2, 5), (2, 3))
        self.assert_exchange(((0, 0, 0, 1, 1, 1), segments), True)
        for at in range(6):
            self.assert_exchange(((0, 0, 0, 1, 1, 1), segments[:at] + segments[at + 1:]), False)

    def test_a_star_with_three_long_arms(self):
        # Two levels hold no tree of three arms of length 2.
        levels = (0, 1, 1, 1, 0, 0, 0)
        segments = ((0, 1), (0, 2), (0, 3), (4, 1), (5, 2), (6, 3))
        self.assert_exchange((levels, segments), True)
        for at in range(3, 6):
            self.assert_exchange((levels, segments[:at] + segments[at + 1:]), False)

    def test_several_parts_of_which_one_is_bad(self):
        levels = (0, 0, 1, 1, 0, 0, 1, 1)
        good = ((0, 2), (0, 3), (1, 3))
        bad = ((4, 6), (4, 7), (5, 6), (5, 7))
        self.assert_exchange((levels, good), False)
        self.assert_exchange((levels, good + bad), True)
        self.assert_exchange((levels, bad[:3] + good), False)

    def test_parts_that_are_fine_each_by_itself(self):
        # A ring over three levels holds what stands within it; a path that must both pass and stay within cannot.
        ring = ((0, 1), (0, 2), (1, 3), (2, 3))
        levels = (0, 1, 1, 2, 1, 0, 2)
        self.assert_exchange((levels, ring), False)
        self.assert_exchange((levels, ring + ((5, 4), (4, 6))), False)
        self.assert_exchange((levels, ring + ((0, 4), (4, 3))), False)
        self.assert_exchange((levels, ring + ((0, 4), (4, 3), (5, 4))), False)
        # Now the middle one of three between the two ends has a segment to the outside, whichever it is.
        levels = (0, 1, 1, 2, 1, 0, 0, 0)
        self.assert_exchange((levels, ring + ((0, 4), (4, 3), (5, 4), (6, 1), (7, 2))), True)

    def test_places_that_no_segment_touches(self):
        self.assert_exchange(((0, 0, 0, 1, 1, 1), ((0, 3), (1, 4))), False)
        self.assert_exchange(((0, 0, 0, 1, 1, 1), ((0, 3), (0, 4), (1, 3), (1, 4))), True)

    def test_against_a_search_through_all_orders(self):
        answers = {True: 0, False: 0}
        for net in small_nets(700, seed=47):
            wanted = not can_be_uncrossed(net)
            self.assert_exchange(net, wanted)
            answers[wanted] += 1
        self.assertGreater(min(answers.values()), 50)

    def test_dense_nets_against_a_search(self):
        source = random.Random(471)
        for sizes in ([3, 4], [2, 3, 3], [3, 2, 3], [2, 2, 2, 3]):
            for _ in range(30):
                net = random_net(source, sizes, 5)
                self.assert_exchange(net, not can_be_uncrossed(net))
                net = random_strips(source, sizes, 0.9)
                self.assert_exchange(net, False)

    def test_nets_at_the_bounds(self):
        for net in great_nets(60, seed=42):
            walk = find_exchange(net)
            self.assertTrue(walk is None or is_exchange(net, walk))
        source = random.Random(42)
        for _ in range(20):
            self.assert_exchange(random_strips(source, [7] * 5 + [1]), False)
            self.assert_exchange(random_strips(source, [6] * 6, 0.7), False)


if __name__ == "__main__":
    unittest.main()

"""Point 23, with the example of point 24."""

import itertools
import random
import unittest

from drawnlayers.arrange.bounds import cheap_ring, pair_bound
from drawnlayers.arrange.costs import Costs
from drawnlayers.arrange.least import least_order, order_price
from helpers import has_ring, random_rows


def is_cheap_ring(costs, ring):
    """Point 23, word by word."""
    if not isinstance(ring, tuple) or len(ring) < 3 or len(set(ring)) < len(ring):
        return False
    if any(number not in range(costs.size) for number in ring):
        return False
    return all(costs[a, b] < costs[b, a] for a, b in zip(ring, ring[1:] + ring[:1]))


def ordered_rows(source, size, top):
    """Costs that one order has at the pair bound, with some that are equal both ways."""
    order = source.sample(range(size), size)
    rows = random_rows(source, size, top)
    for at, a in enumerate(order):
        for b in order[:at]:
            rows[a][b], rows[b][a] = max(rows[a][b], rows[b][a]), min(rows[a][b], rows[b][a])
    return rows


class BoundsTest(unittest.TestCase):
    def assert_bounds(self, costs):
        """Check both functions against each other and the least order; return whether there is a ring."""
        before = costs.rows()
        bound = pair_bound(costs)
        pairs = itertools.combinations(range(costs.size), 2)
        self.assertEqual(bound, sum(min(costs[a, b], costs[b, a]) for a, b in pairs))
        price = least_order(costs)[0]
        self.assertGreaterEqual(price, bound)
        ring = cheap_ring(costs)
        self.assertEqual(ring is None, price == bound)
        numbers = range(costs.size)
        arcs = [(a, b) for a in numbers for b in numbers if a != b and costs[a, b] < costs[b, a]]
        self.assertEqual(ring is not None, has_ring(costs.size, arcs))
        if ring is not None:
            self.assertTrue(is_cheap_ring(costs, ring), ring)
        self.assertEqual(costs.rows(), before)
        return ring is not None

    def test_the_example(self):
        costs = Costs.of(((0, 0, 5), (4, 0, 1), (2, 3, 0)))
        self.assertEqual(pair_bound(costs), 3)
        self.assertIn(cheap_ring(costs), ((0, 1, 2), (1, 2, 0), (2, 0, 1)))
        self.assertTrue(self.assert_bounds(costs))

    def test_small_sizes(self):
        for size in (0, 1, 2):
            self.assertEqual(pair_bound(Costs(size)), 0)
            self.assertIsNone(cheap_ring(Costs(size)))
        for one in range(3):
            for other in range(3):
                costs = Costs.of(((0, one), (other, 0)))
                self.assertEqual(pair_bound(costs), min(one, other))
                self.assertIsNone(cheap_ring(costs))

    def test_all_costs_0_or_equal_both_ways(self):
        source = random.Random(23)
        for size in range(9):
            self.assertEqual(pair_bound(Costs(size)), 0)
            self.assertIsNone(cheap_ring(Costs(size)))
            costs = Costs(size)
            for a, b in itertools.combinations(range(size), 2):
                costs[a, b] = costs[b, a] = source.randint(0, 9)
            self.assertFalse(self.assert_bounds(costs))

    def test_the_cost_that_is_equal_both_ways_breaks_a_ring(self):
        self.assertIsNone(cheap_ring(Costs.of(((0, 0, 1), (1, 0, 0), (1, 1, 0)))))
        self.assertEqual(sorted(cheap_ring(Costs.of(((0, 0, 1), (1, 0, 0), (0, 1, 0))))), [0, 1, 2])

    def test_a_ring_of_all_numbers(self):
        for size in range(3, 9):
            costs = Costs(size)
            for at in range(size):
                costs[(at + 1) % size, at] = 1
            self.assertEqual(pair_bound(costs), 0)
            ring = cheap_ring(costs)
            self.assertEqual(sorted(ring), list(range(size)))
            self.assertTrue(self.assert_bounds(costs))
            costs[1, 0] = 0
            self.assertFalse(self.assert_bounds(costs))

    def test_great_costs(self):
        costs = Costs.of([[10 ** 9] * 8] * 8)
        total = Costs.of(costs.rows())
        for _ in range(5):
            total += total
        self.assertEqual(pair_bound(total), 28 * 32 * 10 ** 9)
        self.assertIsNone(cheap_ring(total))
        total[3, 4] = 10 ** 9
        self.assertEqual(pair_bound(total), 27 * 32 * 10 ** 9 + 10 ** 9)

    def test_against_a_search_through_all_orders(self):
        source = random.Random(231)
        rings = 0
        for at in range(400):
            size = at % 6
            costs = Costs.of(random_rows(source, size, source.choice((1, 3, 10 ** 9))))
            prices = [order_price(costs, order) for order in itertools.permutations(range(size))]
            self.assertEqual(cheap_ring(costs) is None, min(prices) == pair_bound(costs))
            rings += self.assert_bounds(costs)
        self.assertGreater(rings, 50)
        self.assertLess(rings, 350)

    def test_large_tables_with_and_without_a_ring(self):
        source = random.Random(232)
        for size in (6, 7, 8):
            for _ in range(6):
                self.assertFalse(self.assert_bounds(Costs.of(ordered_rows(source, size, 4))))
                self.assertFalse(self.assert_bounds(Costs.of(ordered_rows(source, size, 10 ** 9))))
                self.assert_bounds(Costs.of(random_rows(source, size, 2)))
                self.assert_bounds(Costs.of(random_rows(source, size)))


if __name__ == "__main__":
    unittest.main()

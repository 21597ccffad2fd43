"""Points 54 to 56, with point 21."""

import itertools
import random
import unittest

from drawnlayers.arrange.costs import Costs
from drawnlayers.arrange.least import least_order, order_price
from drawnlayers.orders.medians import start_orders
from drawnlayers.orders.rest import at_rest, level_costs, settled
from helpers import crossings_by_words, great_nets, level_rows, random_orders, small_nets
from test_exchange import BESIDE, CROSSED

# Level 1 has the places 1, 4 and 6.
MIDDLE = ((0, 1, 0, 2, 1, 2, 1), ((0, 1), (0, 4), (2, 4), (2, 6), (2, 6), (1, 5), (4, 3), (6, 3), (6, 5)))


def with_order(orders, level, order):
    return tuple(orders[:level]) + (tuple(order),) + tuple(orders[level + 1:])


def costs_by_words(net, orders, level):
    """Point 54, straight: crossings of the segments at two places, in orders that hold these two alone."""
    row = level_rows(net)[level]
    rows = [[0] * len(row) for _ in row]
    for a, b in itertools.permutations(range(len(row)), 2):
        rest = [place for place in row if place not in (row[a], row[b])]
        changed = with_order(orders, level, (row[a], row[b], *rest))
        segments = tuple(segment for segment in net[1] if row[a] in segment or row[b] in segment)
        rows[a][b] = crossings_by_words((net[0], segments), changed)
    return tuple(tuple(row) for row in rows)


def least_of_level(net, orders, level):
    """The least number of crossings that any order of this level alone gives, near this level."""
    row = level_rows(net)[level]
    near = (net[0], tuple(segment for segment in net[1] if segment[0] in row or segment[1] in row))
    return min(crossings_by_words(near, with_order(orders, level, order)) for order in itertools.permutations(row))


def crossings_of_level(net, orders, level):
    row = orders[level]
    near = (net[0], tuple(segment for segment in net[1] if segment[0] in row or segment[1] in row))
    return crossings_by_words(near, orders)


def settled_by_words(net, orders):
    """Point 56, straight."""
    orders = tuple(orders)
    changed = True
    while changed:
        changed = False
        for level, row in enumerate(level_rows(net)):
            costs = Costs.of(costs_by_words(net, orders, level))
            price = order_price(costs, [row.index(place) for place in orders[level]])
            least, order = least_order(costs)
            if price > least:
                orders = with_order(orders, level, [row[number] for number in order])
                changed = True
    return orders


class LevelCostsTest(unittest.TestCase):
    def test_the_example(self):
        for level in (0, 1):
            costs = level_costs(CROSSED, ((0, 1), (2, 3)), level)
            self.assertIsInstance(costs, Costs)
            self.assertEqual((costs.size, costs[0, 1], costs[1, 0]), (2, 1, 1))

    def test_the_first_and_the_last_level(self):
        self.assertEqual(level_costs(BESIDE, ((0, 1), (2, 3)), 0).rows(), ((0, 0), (1, 0)))
        self.assertEqual(level_costs(BESIDE, ((0, 1), (3, 2)), 0).rows(), ((0, 1), (0, 0)))
        self.assertEqual(level_costs(BESIDE, ((0, 1), (2, 3)), 1).rows(), ((0, 0), (1, 0)))
        self.assertEqual(level_costs(BESIDE, ((1, 0), (2, 3)), 1).rows(), ((0, 1), (0, 0)))

    def test_a_middle_level(self):
        orders = ((0, 2), (1, 4, 6), (3, 5))
        costs = level_costs(MIDDLE, orders, 1)
        # 1 has one segment up and one down, 4 two up and one down, 6 twice the same up and two down.
        self.assertEqual(costs.rows(), ((0, 0 + 1, 0 + 1), (1 + 0, 0, 0 + 0), (2 + 0, 2 + 1, 0)))

    def test_only_the_orders_of_the_neighbouring_levels_matter(self):
        for order in itertools.permutations((1, 4, 6)):
            self.assertEqual(level_costs(MIDDLE, ((0, 2), order, (3, 5)), 1).rows(),
                             level_costs(MIDDLE, ((0, 2), (1, 4, 6), (3, 5)), 1).rows())
        self.assertEqual(level_costs(MIDDLE, ((0, 2), (6, 1, 4), (3, 5)), 0).rows(),
                         level_costs(MIDDLE, ((2, 0), (6, 1, 4), (5, 3)), 0).rows())

    def test_one_level_and_one_place(self):
        self.assertEqual(level_costs(((0, 0, 0), ()), ((2, 0, 1),), 0).rows(), ((0, 0, 0),) * 3)
        self.assertEqual(level_costs(((0, 1), ((0, 1),)), ((0,), (1,)), 1).rows(), ((0,),))

    def test_a_new_table_each_time(self):
        costs = level_costs(CROSSED, ((0, 1), (2, 3)), 0)
        costs[0, 1] = 9
        self.assertEqual(level_costs(CROSSED, ((0, 1), (2, 3)), 0)[0, 1], 1)

    def test_against_the_words(self):
        source = random.Random(541)
        for net in (*small_nets(120, seed=54), *great_nets(8, seed=54)):
            orders = random_orders(source, net)
            for level, row in enumerate(orders):
                costs = level_costs(net, orders, level)
                self.assertEqual(costs.rows(), costs_by_words(net, orders, level))
                ascending = sorted(row)
                price = order_price(costs, [ascending.index(place) for place in row])
                self.assertEqual(price, crossings_of_level(net, orders, level))


class RestTest(unittest.TestCase):
    def test_the_example(self):
        self.assertIs(at_rest(CROSSED, ((0, 1), (2, 3))), True)
        self.assertEqual(settled(CROSSED, ((0, 1), (2, 3))), ((0, 1), (2, 3)))
        self.assertEqual(settled(CROSSED, ((1, 0), (3, 2))), ((1, 0), (3, 2)))

    def test_no_places_and_one_level(self):
        self.assertIs(at_rest(((), ()), ()), True)
        self.assertEqual(settled(((), ()), ()), ())
        self.assertIs(at_rest(((0, 0, 0), ()), ((2, 0, 1),)), True)
        self.assertEqual(settled(((0, 0, 0), ()), ((2, 0, 1),)), ((2, 0, 1),))

    def test_not_at_rest_by_one_level_alone(self):
        # A path for each of three columns; the level that is turned about is the one that is not at rest.
        levels = tuple(level for level in range(4) for _ in range(3))
        net = (levels, tuple((at, at + 3) for at in range(9)))
        straight = tuple(tuple(range(at, at + 3)) for at in (0, 3, 6, 9))
        self.assertIs(at_rest(net, straight), True)
        for level in range(4):
            changed = with_order(straight, level, straight[level][::-1])
            self.assertIs(at_rest(net, changed), False)
            # Level 0 comes first: it follows level 1, which then gains nothing by turning back.
            wanted = with_order(changed, 0, straight[0][::-1]) if level == 1 else straight
            self.assertEqual(settled(net, changed), wanted)
        # Two and two levels against each other: only the two in the middle see it.
        halves = tuple(row if level < 2 else row[::-1] for level, row in enumerate(straight))
        self.assertIs(at_rest(net, halves), True)
        self.assertEqual(settled(net, halves), halves)

    def test_only_the_last_level_is_not_at_rest(self):
        net = ((0, 1, 1, 2, 2), ((0, 1), (0, 2), (1, 3), (1, 3), (2, 4), (2, 4)))
        self.assertIs(at_rest(net, ((0,), (1, 2), (3, 4))), True)
        self.assertIs(at_rest(net, ((0,), (1, 2), (4, 3))), False)
        # The first level that can do better is the one that changes.
        self.assertEqual(settled(net, ((0,), (1, 2), (4, 3))), ((0,), (2, 1), (4, 3)))

    def test_a_level_gets_its_least_order(self):
        # All orders in which 4 is the last one have no crossing; the least one is taken.
        net = ((0, 0, 1, 1, 1), ((0, 2), (0, 3), (1, 4)))
        self.assertEqual(settled(net, ((0, 1), (3, 2, 4))), ((0, 1), (3, 2, 4)))
        self.assertEqual(settled(net, ((1, 0), (3, 2, 4))), ((0, 1), (3, 2, 4)))
        net = ((0, 1, 1, 1, 1, 2, 2), ((0, 1), (1, 5), (2, 5), (3, 5), (4, 6)))
        self.assertEqual(settled(net, ((0,), (4, 3, 2, 1), (5, 6))), ((0,), (1, 2, 3, 4), (5, 6)))

    def test_levels_as_they_are_at_this_moment(self):
        # Level 1 follows level 0, and then level 2 follows level 1, in one pass.
        net = ((0, 0, 1, 1, 2, 2), ((0, 2), (0, 2), (0, 2), (1, 3), (1, 3), (1, 3), (2, 4), (3, 5)))
        self.assertEqual(settled(net, ((0, 1), (3, 2), (5, 4))), ((1, 0), (3, 2), (5, 4)))
        self.assertEqual(settled(net, ((0, 1), (2, 3), (5, 4))), ((0, 1), (2, 3), (4, 5)))

    def test_against_the_words(self):
        source = random.Random(55)
        answers = {True: 0, False: 0}
        for net in small_nets(200, seed=55):
            for orders in (random_orders(source, net), start_orders(net)):
                wanted = all(crossings_of_level(net, orders, level) == least_of_level(net, orders, level)
                             for level in range(len(orders)))
                self.assertIs(at_rest(net, orders), wanted)
                answers[wanted] += 1
                found = settled(net, orders)
                self.assertEqual(found, settled_by_words(net, orders))
                self.assertIs(at_rest(net, found), True)
                self.assertLessEqual(crossings_by_words(net, found), crossings_by_words(net, orders))
                self.assertEqual(settled(net, found), found)
                if wanted:
                    self.assertEqual(found, orders)
        self.assertGreater(min(answers.values()), 50)

    def test_nets_at_the_bounds(self):
        source = random.Random(56)
        for net in great_nets(16, seed=56):
            orders = random_orders(source, net)
            found = settled(net, orders)
            self.assertEqual([tuple(sorted(order)) for order in found], level_rows(net))
            self.assertTrue(all(isinstance(order, tuple) for order in found))
            self.assertIs(at_rest(net, found), True)
            self.assertLessEqual(crossings_by_words(net, found), crossings_by_words(net, orders))


if __name__ == "__main__":
    unittest.main()

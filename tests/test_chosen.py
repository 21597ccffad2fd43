"""Point 57, with point 47."""

import unittest

from drawnlayers.net.exchange import find_exchange
from drawnlayers.orders.chosen import chosen_orders
from drawnlayers.orders.medians import start_orders
from drawnlayers.orders.rest import at_rest, settled
from helpers import crossings_by_words, great_nets, level_rows, small_nets
from test_exchange import BESIDE, CROSSED, can_be_uncrossed


class ChosenTest(unittest.TestCase):
    def assert_chosen(self, net, crossed):
        orders = chosen_orders(net)
        self.assertIsInstance(orders, tuple)
        self.assertTrue(all(isinstance(order, tuple) for order in orders))
        self.assertEqual([tuple(sorted(order)) for order in orders], level_rows(net))
        self.assertEqual(crossings_by_words(net, orders) > 0, crossed)
        self.assertIs(at_rest(net, orders), True)
        if crossed:
            self.assertEqual(orders, settled(net, start_orders(net)))
        self.assertEqual(chosen_orders(net), orders)

    def test_the_example(self):
        self.assertEqual(chosen_orders(CROSSED), ((0, 1), (2, 3)))
        self.assertEqual(start_orders(CROSSED), ((0, 1), (2, 3)))
        self.assert_chosen(CROSSED, True)

    def test_nets_without_an_exchange(self):
        self.assertEqual(chosen_orders(((), ())), ())
        for net in (BESIDE, ((0,), ()), ((0, 0, 0), ()), ((0, 0, 1, 1), ((0, 3), (1, 2))), ((0, 1, 1, 2), ())):
            self.assert_chosen(net, False)

    def test_medians_alone_would_leave_a_crossing(self):
        # No order of the others but one leaves this net without a crossing, and it does not begin in ascending order.
        net = ((0, 0, 0, 1, 1), ((0, 3), (1, 4), (2, 3), (2, 4)))
        self.assertGreater(crossings_by_words(net, start_orders(net)), 0)
        self.assert_chosen(net, False)

    def test_settled_orders_are_not_always_the_best_ones(self):
        # Where there is an exchange, the start orders are settled, and not searched through.
        some = 0
        for net in small_nets(300, seed=57):
            if find_exchange(net) is not None:
                self.assert_chosen(net, True)
                some += start_orders(net) != chosen_orders(net)
        self.assertGreater(some, 5)

    def test_against_a_search_through_all_orders(self):
        for net in small_nets(200, seed=571):
            self.assert_chosen(net, not can_be_uncrossed(net))

    def test_nets_at_the_bounds(self):
        answers = {True: 0, False: 0}
        for net in great_nets(40, seed=57):
            crossed = find_exchange(net) is not None
            answers[crossed] += 1
            self.assert_chosen(net, crossed)
        self.assertGreater(min(answers.values()), 8)


if __name__ == "__main__":
    unittest.main()

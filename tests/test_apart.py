"""Point 49."""

import itertools
import random
import unittest

from drawnlayers.net.apart import all_apart, apart_exchanges
from drawnlayers.net.exchange import find_exchange
from drawnlayers.net.walkers import is_exchange, steps_from
from helpers import all_orders, crossings_by_words, great_nets, small_nets
from test_exchange import BESIDE, CROSSED

LEFT = ((0, 1), (2, 3), (1, 0))
# Two crossed squares side by side.
TWO = ((0, 0, 1, 1, 0, 0, 1, 1), ((0, 2), (0, 3), (1, 2), (1, 3), (4, 6), (4, 7), (5, 6), (5, 7)))
# Each two of three places are joined with each two of three.
NINE = ((0, 0, 0, 1, 1, 1), tuple((upper, lower) for upper in (0, 1, 2) for lower in (3, 4, 5)))


def coincide(step, other):
    """Point 49, word by word: both use the same two joined pairs of places."""
    def uses(first, second):
        return sorted([sorted([first[0], second[0]]), sorted([first[1], second[1]])])

    return uses(*step) == uses(*other)


def are_apart(one, other):
    steps = list(zip(one, one[1:]))
    others = list(zip(other, other[1:]))
    return not any(coincide(step, further) for step in steps for further in others)


class AllApartTest(unittest.TestCase):
    def test_none_and_one(self):
        self.assertIs(all_apart(()), True)
        self.assertIs(all_apart((LEFT,)), True)

    def test_equal_exchanges(self):
        self.assertIs(all_apart((LEFT, LEFT)), False)
        self.assertIs(all_apart((LEFT, ((4, 5), (6, 7), (5, 4)), LEFT)), False)

    def test_the_other_direction_and_order(self):
        for other in (LEFT[::-1], ((1, 0), (3, 2), (0, 1)), ((2, 3), (0, 1), (3, 2)), ((2, 3), (1, 0), (3, 2))):
            self.assertTrue(is_exchange(CROSSED, other))
            self.assertIs(all_apart((LEFT, other)), False)

    def test_one_step_in_common(self):
        one = ((0, 1), (3, 4), (1, 0))
        for other, wanted in (
            (((0, 2), (3, 4), (2, 0)), True),
            (((0, 1), (3, 5), (1, 0)), True),
            (((0, 2), (3, 4), (0, 1), (4, 3), (2, 0)), False),
            (((5, 3), (2, 1), (4, 3), (0, 1), (3, 5)), False),
            (((1, 0), (3, 4), (0, 1)), False),
        ):
            self.assertTrue(is_exchange(NINE, other))
            self.assertEqual(are_apart(one, other), wanted)
            self.assertIs(all_apart((one, other)), wanted)
            self.assertIs(all_apart((other, one)), wanted)

    def test_one_joined_pair_in_common_is_not_enough(self):
        self.assertIs(all_apart((((0, 1), (3, 4), (1, 0)), ((0, 2), (3, 5), (2, 0)))), True)

    def test_a_walk_that_repeats_its_own_steps(self):
        again = ((0, 1), (2, 3), (0, 1), (2, 3), (1, 0))
        self.assertTrue(is_exchange(CROSSED, again))
        self.assertIs(all_apart((again,)), True)

    def test_every_two_are_looked_at(self):
        rows = tuple(((at, at + 1), (at + 2, at + 3), (at + 1, at)) for at in (0, 4, 8, 12))
        self.assertIs(all_apart(rows), True)
        for one, other in itertools.combinations(range(4), 2):
            changed = list(rows)
            changed[other] = rows[one][::-1]
            self.assertIs(all_apart(tuple(changed)), False)

    def test_against_the_words(self):
        source = random.Random(49)
        answers = {True: 0, False: 0}
        found = []
        for first in itertools.permutations(range(3), 2):
            for second in steps_from(NINE, first):
                for third in steps_from(NINE, second):
                    for fourth in steps_from(NINE, third):
                        found.extend(walk for walk in (
                            (first, second, first[::-1]), (first, second, third, fourth, first[::-1])) if is_exchange(NINE, walk))
        for _ in range(300):
            walks = tuple(source.choice(found) for _ in range(source.choice((2, 2, 3))))
            wanted = all(are_apart(one, other) for one, other in itertools.combinations(walks, 2))
            self.assertIs(all_apart(walks), wanted)
            answers[wanted] += 1
        self.assertGreater(min(answers.values()), 20)


class ApartExchangesTest(unittest.TestCase):
    def assert_apart(self, net):
        walks = apart_exchanges(net)
        self.assertIsInstance(walks, tuple)
        for walk in walks:
            self.assertTrue(is_exchange(net, walk))
        for one, other in itertools.combinations(walks, 2):
            self.assertTrue(are_apart(one, other))
        self.assertIs(all_apart(walks), True)
        self.assertEqual(walks == (), find_exchange(net) is None)
        return walks

    def test_no_exchange(self):
        for net in (BESIDE, ((), ()), ((0, 0, 0), ()), ((0, 1, 1), ((0, 1), (0, 2)))):
            self.assertEqual(apart_exchanges(net), ())

    def test_one_exchange(self):
        self.assertEqual(len(self.assert_apart(CROSSED)), 1)
        self.assertEqual(len(self.assert_apart((CROSSED[0], CROSSED[1] * 3))), 1)

    def test_two_parts_with_an_exchange_each(self):
        walks = self.assert_apart(TWO)
        self.assertEqual(len(walks), 2)
        self.assertEqual(len({min(place for pair in walk for place in pair) for walk in walks}), 2)

    def test_several_in_one_part(self):
        self.assertGreater(len(self.assert_apart(NINE)), 1)

    def test_all_orders_have_as_many_crossings(self):
        most = 0
        for net in small_nets(200, seed=49):
            walks = self.assert_apart(net)
            if walks:
                self.assertGreaterEqual(min(crossings_by_words(net, orders) for orders in all_orders(net)), len(walks))
                most = max(most, len(walks))
        self.assertGreater(most, 2)

    def test_nets_at_the_bounds(self):
        for net in great_nets(40, seed=49):
            self.assert_apart(net)


if __name__ == "__main__":
    unittest.main()

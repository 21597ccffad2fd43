"""Point 45, with points 42 and 46 and the example of point 50."""

import random
import unittest

from drawnlayers.net.walkers import is_exchange, is_walk, steps_from, tied
from drawnlayers.orders.crossings import crossing_steps
from helpers import great_nets, level_rows, random_orders, small_nets

CROSSED = ((0, 0, 1, 1), ((0, 2), (0, 3), (1, 2), (1, 3)))
BESIDE = ((0, 0, 1, 1), ((0, 2), (1, 3)))
THREE = ((0, 0, 1, 1, 2, 2), ((0, 2), (1, 3), (2, 4), (3, 5), (3, 4)))


def all_pairs(net):
    return [(a, b) for row in level_rows(net) for a in row for b in row if a != b]


def is_step(net, first, second):
    """Point 45, word by word, for two pairs of the net."""
    levels, segments = net
    (a, b), (c, d) = first, second

    def joined(one, other):
        return (one, other) in segments or (other, one) in segments

    return joined(a, c) and joined(b, d) and c != d and abs(levels[a] - levels[c]) == 1 and levels[c] == levels[d]


def reached(net, pair):
    """All pairs to which some walk leads from a pair."""
    found, waiting = {pair}, [pair]
    while waiting:
        first = waiting.pop()
        for second in all_pairs(net):
            if second not in found and is_step(net, first, second):
                found.add(second)
                waiting.append(second)
    return found


class StepsTest(unittest.TestCase):
    def test_the_example(self):
        self.assertEqual(steps_from(CROSSED, (0, 1)), [(2, 3), (3, 2)])
        self.assertEqual(steps_from(CROSSED, (3, 2)), [(0, 1), (1, 0)])
        self.assertEqual(steps_from(BESIDE, (0, 1)), [(2, 3)])
        self.assertEqual(steps_from(BESIDE, (1, 0)), [(3, 2)])

    def test_forward_and_back_in_ascending_order(self):
        self.assertEqual(steps_from(THREE, (2, 3)), [(0, 1), (4, 5)])
        self.assertEqual(steps_from(THREE, (3, 2)), [(1, 0), (5, 4)])
        self.assertEqual(steps_from(THREE, (4, 5)), [(2, 3)])
        # The level before has the greater numbers here.
        net = ((1, 1, 0, 0, 2, 2), ((2, 0), (3, 1), (0, 5), (1, 4)))
        self.assertEqual(steps_from(net, (0, 1)), [(2, 3), (5, 4)])
        self.assertEqual(steps_from(((1, 1, 0, 0, 2, 2), ((3, 0), (2, 1), (0, 5), (1, 4))), (0, 1)), [(3, 2), (5, 4)])

    def test_not_one_forward_and_one_back(self):
        net = ((0, 1, 1, 2), ((0, 1), (2, 3)))
        self.assertEqual(steps_from(net, (1, 2)), [])
        self.assertEqual(steps_from(net, (2, 1)), [])

    def test_the_walkers_do_not_meet(self):
        self.assertEqual(steps_from(((0, 0, 1), ((0, 2), (1, 2))), (0, 1)), [])
        self.assertEqual(steps_from(((0, 0, 1, 1), ((0, 2), (1, 2), (1, 3))), (0, 1)), [(2, 3)])

    def test_segments_that_stand_twice(self):
        net = ((0, 0, 1, 1), ((0, 2), (1, 3), (0, 2), (1, 3), (1, 3)))
        self.assertEqual(steps_from(net, (0, 1)), [(2, 3)])

    def test_places_without_segments(self):
        self.assertEqual(steps_from(((0, 0), ()), (0, 1)), [])
        self.assertEqual(steps_from(((0, 0, 1), ((0, 2),)), (0, 1)), [])

    def test_pairs_that_are_none(self):
        # Taken as two walkers, all of these could go on.
        for pair in ((0, 0), (2, 2), (0, 3), (0, 2), (-4, 1), (1, -4), (-1, 2), (-1, -2), (4, 5), (0, 4)):
            self.assertEqual(steps_from(CROSSED, pair), [], pair)
            self.assertEqual(tied(CROSSED, pair, (0, 1)), (False, False), pair)
        self.assertEqual(steps_from(((0, 1, 2, 3), ((0, 1), (1, 2), (2, 3))), (0, 2)), [])
        self.assertEqual(steps_from(((0, 1, 1, 2), ((0, 1), (0, 2), (1, 3))), (0, 3)), [])

    def test_a_new_list_each_time(self):
        steps = steps_from(CROSSED, (0, 1))
        steps.clear()
        self.assertEqual(steps_from(CROSSED, (0, 1)), [(2, 3), (3, 2)])

    def test_against_the_words(self):
        for net in small_nets(150, seed=45):
            for pair in all_pairs(net):
                self.assertEqual(steps_from(net, pair), sorted(other for other in all_pairs(net) if is_step(net, pair, other)))


class WalksTest(unittest.TestCase):
    def test_the_example(self):
        exchange = ((0, 1), (2, 3), (1, 0))
        self.assertIs(is_walk(CROSSED, exchange), True)
        self.assertIs(is_exchange(CROSSED, exchange), True)
        self.assertIs(is_walk(BESIDE, exchange), False)
        self.assertIs(is_exchange(BESIDE, exchange), False)

    def test_the_empty_walk_and_walks_of_one_pair(self):
        for net in (CROSSED, BESIDE, ((), ())):
            self.assertIs(is_walk(net, ()), False)
            self.assertIs(is_exchange(net, ()), False)
        self.assertIs(is_walk(BESIDE, ((0, 1),)), True)
        self.assertIs(is_walk(BESIDE, ((3, 2),)), True)
        self.assertIs(is_exchange(BESIDE, ((0, 1),)), False)
        self.assertIs(is_walk(((0, 0), ()), ((1, 0),)), True)

    def test_pairs_that_are_none(self):
        for pair in ((0, 0), (2, 2), (0, 2), (3, 1), (0, 4), (4, 0), (9, 9), (10 ** 39, 0),
                     (-1, 0), (0, -1), (-1, 2), (2, -1), (-1, -2), (-4, -3)):
            self.assertIs(is_walk(CROSSED, (pair,)), False, pair)
            self.assertIs(is_walk(CROSSED, ((0, 1), pair)), False, pair)
            self.assertIs(is_walk(CROSSED, (pair, (0, 1))), False, pair)
            self.assertIs(is_walk(CROSSED, ((0, 1), (2, 3), pair)), False, pair)
            self.assertIs(is_exchange(CROSSED, (pair, (2, 3), pair[::-1])), False, pair)
        self.assertIs(is_walk(((), ()), ((0, 1),)), False)
        self.assertIs(is_walk(((), ()), ((-1, -2),)), False)

    def test_walks_that_do_not_change_places(self):
        for walk in (((0, 1), (2, 3)), ((0, 1), (2, 3), (0, 1)), ((0, 1), (3, 2), (1, 0), (2, 3))):
            self.assertIs(is_walk(CROSSED, walk), True)
            self.assertIs(is_exchange(CROSSED, walk), False)

    def test_long_exchanges(self):
        self.assertIs(is_exchange(CROSSED, ((0, 1), (2, 3), (0, 1), (3, 2), (1, 0))), True)
        self.assertIs(is_exchange(CROSSED, ((3, 2), (0, 1), (2, 3))), True)
        self.assertIs(is_exchange(CROSSED, ((0, 1), (2, 3), (1, 0), (2, 3), (0, 1))), False)

    def test_a_pair_that_stays_or_jumps(self):
        self.assertIs(is_walk(CROSSED, ((0, 1), (0, 1))), False)
        self.assertIs(is_walk(CROSSED, ((0, 1), (1, 0))), False)
        self.assertIs(is_exchange(CROSSED, ((0, 1), (1, 0))), False)
        self.assertIs(is_walk(THREE, ((0, 1), (4, 5))), False)
        self.assertIs(is_walk(THREE, ((0, 1), (2, 3), (4, 5), (2, 3), (0, 1))), True)

    def test_a_bad_step_at_each_place(self):
        walk = ((0, 1), (2, 3), (4, 5), (2, 3), (0, 1))
        for at in range(5):
            for pair in all_pairs(THREE):
                changed = walk[:at] + (pair,) + walk[at + 1:]
                wanted = all(is_step(THREE, first, second) for first, second in zip(changed, changed[1:]))
                self.assertIs(is_walk(THREE, changed), wanted, changed)

    def test_random_walks_against_the_words(self):
        source = random.Random(451)
        exchanges = 0
        for net in small_nets(200, seed=451):
            pairs = all_pairs(net)
            for _ in range(30 if pairs else 0):
                walk = [source.choice(pairs)]
                while len(walk) < 6 and source.random() < 0.8:
                    steps = [pair for pair in pairs if is_step(net, walk[-1], pair)]
                    walk.append(source.choice(steps if steps and source.random() < 0.9 else pairs))
                walk = tuple(walk)
                wanted = all(is_step(net, first, second) for first, second in zip(walk, walk[1:]))
                self.assertIs(is_walk(net, walk), wanted)
                self.assertIs(is_exchange(net, walk), wanted and walk[-1] == walk[0][::-1])
                exchanges += is_exchange(net, walk)
        self.assertGreater(exchanges, 5)

    def test_an_exchange_has_an_odd_number_of_crossing_steps(self):
        source = random.Random(46)
        for _ in range(20):
            orders = random_orders(source, CROSSED)
            self.assertEqual(crossing_steps(orders, ((0, 1), (2, 3), (1, 0))) % 2, 1)


class TiedTest(unittest.TestCase):
    def test_the_example(self):
        self.assertEqual(tied(BESIDE, (0, 1), (2, 3)), (True, False))
        self.assertEqual(tied(BESIDE, (0, 1), (3, 2)), (False, True))

    def test_both(self):
        for first in all_pairs(CROSSED):
            for second in all_pairs(CROSSED):
                self.assertEqual(tied(CROSSED, first, second), (True, True))

    def test_neither(self):
        net = ((0, 0, 1, 1, 2, 2), ((0, 2), (1, 3), (2, 4), (2, 5)))
        self.assertEqual(tied(net, (0, 1), (4, 5)), (False, False))
        self.assertEqual(tied(((0, 0, 0), ()), (0, 1), (1, 2)), (False, False))

    def test_a_pair_with_itself(self):
        for net in (BESIDE, ((0, 0), ())):
            self.assertEqual(tied(net, (0, 1), (0, 1)), (True, False))
            self.assertEqual(tied(net, (0, 1), (1, 0)), (False, True))
            self.assertEqual(tied(net, (1, 0), (1, 0)), (True, False))

    def test_over_several_levels_and_back(self):
        net = ((0, 0, 1, 1, 1, 2, 2), ((0, 2), (1, 3), (2, 5), (3, 6), (4, 6)))
        self.assertEqual(tied(net, (0, 1), (2, 4)), (True, False))
        self.assertEqual(tied(net, (4, 2), (0, 1)), (False, True))
        self.assertEqual(tied(net, (0, 1), (3, 4)), (False, False))

    def test_pairs_that_are_none_are_not_tied(self):
        for pair in ((0, 0), (0, 2), (-1, -2), (4, 5)):
            self.assertEqual(tied(BESIDE, pair, pair), (False, False))
            self.assertEqual(tied(BESIDE, (0, 1), pair), (False, False))
            self.assertEqual(tied(BESIDE, pair, (0, 1)), (False, False))

    def test_against_the_words(self):
        source = random.Random(452)
        answers = set()
        for net in small_nets(150, seed=452):
            pairs = all_pairs(net)
            for first in source.sample(pairs, min(3, len(pairs))):
                found = reached(net, first)
                for second in pairs:
                    answer = tied(net, first, second)
                    self.assertEqual(answer, (second in found, second[::-1] in found))
                    self.assertTrue(all(isinstance(part, bool) for part in answer))
                    self.assertEqual(tied(net, second, first), answer)
                    answers.add(answer)
        self.assertEqual(len(answers), 4)

    def test_nets_at_the_bounds(self):
        for net in great_nets(6, seed=45):
            pairs = all_pairs(net)
            if pairs:
                self.assertEqual(tied(net, pairs[0], pairs[0])[0], True)
                for pair in pairs[::17]:
                    for other in steps_from(net, pair):
                        self.assertIn(pair, steps_from(net, other))
                        self.assertTrue(tied(net, pair, other)[0])


if __name__ == "__main__":
    unittest.main()

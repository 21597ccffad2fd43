"""Searching for walks, as points 45 to 47 use it: where walks lead, by which pairs, and round barred steps."""

import random
import unittest

from drawnlayers.net.exchange import exchange_without, find_exchange
from drawnlayers.net.search import came_from, step_key, step_table, turned_about, walk_to
from drawnlayers.net.walkers import is_walk, tied
from helpers import great_nets, small_nets
from test_walkers import BESIDE, CROSSED, THREE, all_pairs, is_step, reached

NO_SEGMENTS = ((0, 0, 0, 1, 1, 2), ())
# No walk leads from the pair of level 0 to one of level 2, as only one of its places goes on.
BROKEN = ((0, 0, 1, 1, 2, 2), ((0, 2), (1, 3), (2, 4), (2, 5)))


def reached_without(net, pair, barred):
    """All pairs to which some walk without barred steps leads from a pair."""
    found, waiting = {pair}, [pair]
    while waiting:
        first = waiting.pop()
        for second in all_pairs(net):
            if second not in found and is_step(net, first, second) and step_key(first, second) not in barred:
                found.add(second)
                waiting.append(second)
    return found


class SearchTest(unittest.TestCase):
    def assert_walks(self, net, start, barred, wanted):
        """From the start, walks that use no barred step lead to just the wanted pairs."""
        steps = step_table(net)
        before = {pair: list(steps[pair]) for pair in steps}
        came = came_from(steps, start, barred)
        self.assertEqual(steps, before)
        self.assertEqual(set(came), wanted)
        self.assertIsNone(came[start])
        for pair in came:
            walk = walk_to(came, pair)
            self.assertEqual((walk[0], walk[-1]), (start, pair))
            self.assertTrue(is_walk(net, walk), (net, walk))
            self.assertEqual(len(set(walk)), len(walk))
            for first, second in zip(walk, walk[1:]):
                self.assertNotIn(step_key(first, second), barred)

    def test_ordinary_nets(self):
        self.assert_walks(CROSSED, (0, 1), {}, {(0, 1), (1, 0), (2, 3), (3, 2)})
        self.assert_walks(BESIDE, (0, 1), {}, {(0, 1), (2, 3)})
        self.assert_walks(BESIDE, (3, 2), {}, {(1, 0), (3, 2)})
        self.assert_walks(THREE, (4, 5), {}, {(4, 5), (2, 3), (0, 1)})

    def test_a_net_without_segments(self):
        for pair in all_pairs(NO_SEGMENTS):
            self.assertEqual(step_table(NO_SEGMENTS)[pair], [])
            self.assert_walks(NO_SEGMENTS, pair, {}, {pair})
            for other in all_pairs(NO_SEGMENTS):
                self.assertEqual(tied(NO_SEGMENTS, pair, other), (pair == other, pair == other[::-1]))
        self.assertEqual(step_table(((), ())), {})
        self.assertIsNone(find_exchange(NO_SEGMENTS))
        self.assertIsNone(find_exchange(((), ())))

    def test_a_net_in_which_no_walk_leads_to_a_pair(self):
        self.assert_walks(BROKEN, (0, 1), {}, {(0, 1), (2, 3)})
        self.assert_walks(BROKEN, (4, 5), {}, {(4, 5)})
        self.assertEqual(tied(BROKEN, (0, 1), (4, 5)), (False, False))
        self.assertIsNone(find_exchange(BROKEN))

    def test_a_long_walk(self):
        # Two rows of places side by side, in which the walkers can only go on together.
        for depth in (1, 2, 17):
            levels = tuple(level for level in range(depth + 1) for _ in (0, 1))
            segments = tuple((2 * level + side, 2 * level + 2 + side) for level in range(depth) for side in (0, 1))
            pairs = [(2 * level, 2 * level + 1) for level in range(depth + 1)]
            self.assert_walks((levels, segments), (0, 1), {}, set(pairs))
            self.assertEqual(walk_to(came_from(step_table((levels, segments)), (0, 1), {}), pairs[-1]), tuple(pairs))

    def test_barred_steps(self):
        straight = step_key((0, 1), (2, 3))
        crosswise = step_key((0, 1), (3, 2))
        self.assert_walks(CROSSED, (0, 1), {straight: True}, {(0, 1), (3, 2)})
        self.assert_walks(CROSSED, (0, 1), {crosswise: True}, {(0, 1), (2, 3)})
        self.assert_walks(CROSSED, (0, 1), {straight: True, crosswise: True}, {(0, 1)})
        self.assertIsNone(exchange_without(step_table(CROSSED), {straight: True}))

    def test_a_step_coincides_with_itself_backwards_and_turned_about(self):
        for first, second in (((0, 1), (2, 3)), ((2, 3), (0, 1)), ((1, 0), (3, 2)), ((3, 2), (1, 0))):
            self.assertEqual(step_key(first, second), step_key((0, 1), (2, 3)))
            self.assertNotEqual(step_key(first, turned_about(second)), step_key((0, 1), (2, 3)))

    def test_small_nets_against_the_words(self):
        source = random.Random(453)
        many_barred = 0
        for net in small_nets(120, seed=453):
            pairs = all_pairs(net)
            keys = sorted({step_key(first, second) for first in pairs for second in pairs if is_step(net, first, second)})
            for start in source.sample(pairs, min(3, len(pairs))):
                self.assert_walks(net, start, {}, reached(net, start))
                barred = {key: True for key in keys if source.random() < 0.3}
                wanted = reached_without(net, start, barred)
                self.assert_walks(net, start, barred, wanted)
                many_barred += wanted != reached(net, start)
        self.assertGreater(many_barred, 20)

    def test_nets_at_the_bounds(self):
        for net in great_nets(4, seed=454):
            steps = step_table(net)
            for start in all_pairs(net)[:1]:
                came = came_from(steps, start, {})
                self.assertEqual(set(came), {start} | {target for pair in came for target in steps[pair]})
                for pair in came:
                    self.assertTrue(came[pair] is None or pair in steps[came[pair]])


if __name__ == "__main__":
    unittest.main()

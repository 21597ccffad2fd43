"""Points 32 and 36, with the example of point 35."""

import itertools
import random
import unittest

from drawnlayers.errors import RisingRing
from drawnlayers.heights.best import best_heights
from drawnlayers.heights.forces import best_forces
from drawnlayers.heights.least import least_heights
from drawnlayers.heights.system import cost, is_balanced, keeps, worth
from helpers import all_heights, random_system
from test_least_heights import is_rising_ring


def best_by_search(system, top):
    """The least best heights among those up to the top."""
    fitting = [heights for heights in all_heights(system[0], top) if keeps(system, heights)]
    least = min(cost(system, heights) for heights in fitting)
    best = [heights for heights in fitting if cost(system, heights) == least]
    return tuple(min(row) for row in zip(*best))


def has_better_lift(system, heights):
    price = cost(system, heights)
    for many in range(1, system[0] + 1):
        for chosen in itertools.combinations(range(system[0]), many):
            lifted = tuple(height + (at in chosen) for at, height in enumerate(heights))
            if keeps(system, lifted) and cost(system, lifted) < price:
                return True
    return False


def are_pinned(system, heights, forces):
    """Whether every unknown is held up, step by step, by one of the four ways of point 34."""
    pull_forces, bound_forces = forces
    held = {at for at, height in enumerate(heights) if height == 0}
    rests = []
    for (start, end, gap), force in zip(system[1], bound_forces):
        if heights[end] - heights[start] == gap:
            rests.append((end, start))
            if force > 0:
                rests.append((start, end))
    for (start, end, gap, weight), force in zip(system[2], pull_forces):
        if heights[end] - heights[start] == gap:
            if force > -weight:
                rests.append((end, start))
            if force < weight:
                rests.append((start, end))
    more = True
    while more:
        fresh = {above for above, below in rests if below in held and above not in held}
        held |= fresh
        more = bool(fresh)
    return len(held) == len(heights)


class BestHeightsTest(unittest.TestCase):
    def assert_best(self, system):
        heights = best_heights(system)
        self.assertIsInstance(heights, tuple)
        self.assertEqual(len(heights), system[0])
        self.assertTrue(all(height >= 0 for height in heights))
        self.assertTrue(keeps(system, heights))
        forces = best_forces(system, least_heights(system))
        self.assertTrue(is_balanced(system, forces))
        self.assertEqual(worth(system, forces), cost(system, heights))
        self.assertTrue(are_pinned(system, heights, forces))
        self.assertEqual(best_heights(system), heights)

    def test_the_example(self):
        self.assertEqual(best_heights((3, ((0, 1, 2), (1, 2, 2)), ((0, 2, 1, 3),))), (0, 2, 4))

    def test_no_unknowns_and_no_pulls(self):
        self.assertEqual(best_heights((0, (), ())), ())
        self.assertEqual(best_heights((1, (), ())), (0,))
        self.assertEqual(best_heights((3, ((0, 2, 4),), ())), (0, 0, 4))

    def test_pulls_alone(self):
        self.assertEqual(best_heights((2, (), ((0, 1, 5, 1),))), (0, 5))
        self.assertEqual(best_heights((2, (), ((0, 1, -5, 1),))), (5, 0))
        self.assertEqual(best_heights((2, (), ((0, 1, 5, 1), (0, 1, 9, 2)))), (0, 9))
        self.assertEqual(best_heights((2, (), ((0, 1, 5, 2), (0, 1, 9, 2)))), (0, 5))
        self.assertEqual(best_heights((2, (), ((1, 0, 5, 2), (0, 1, 9, 2)))), (0, 0))
        self.assertEqual(best_heights((2, (), ((1, 0, 5, 3), (0, 1, 9, 2)))), (5, 0))
        self.assertEqual(best_heights((3, (), ((0, 1, 4, 1), (1, 2, 4, 1), (0, 2, 9, 1)))), (0, 4, 8))

    def test_weights_of_0(self):
        self.assertEqual(best_heights((2, (), ((0, 1, 5, 0),))), (0, 0))
        self.assertEqual(best_heights((2, ((0, 1, 3),), ((0, 1, 10 ** 6, 0), (0, 1, 4, 1)))), (0, 4))
        self.assertEqual(best_heights((3, ((0, 1, 3),), ((0, 1, 9, 0), (1, 2, 9, 0)))), (0, 3, 0))

    def test_great_gaps_and_weights(self):
        gap = 10 ** 6
        self.assertEqual(best_heights((2, (), ((0, 1, gap, 99), (0, 1, -gap, 98)))), (0, gap))
        self.assertEqual(best_heights((2, (), ((0, 1, gap, 99), (0, 1, -gap, 99)))), (0, 0))
        self.assertEqual(best_heights((2, (), ((0, 1, gap, 98), (0, 1, -gap, 99)))), (gap, 0))
        chain = tuple((at, at + 1, gap) for at in range(15))
        pulls = tuple((at, at + 1, -gap, 99) for at in range(15)) + ((0, 15, gap, 1),)
        self.assertEqual(best_heights((16, chain, pulls)), tuple(at * gap for at in range(16)))

    def test_rising_rings(self):
        for system in (
            (2, ((0, 1, 2), (1, 0, -1)), ()),
            (2, ((0, 1, 2), (1, 0, -1)), ((0, 1, 1, 1),)),
            (4, ((2, 3, 0), (0, 1, 5), (1, 2, -5), (3, 1, 6), (2, 0, 0)), ((0, 1, 1, 1),)),
        ):
            with self.assertRaises(RisingRing) as caught:
                best_heights(system)
            self.assertTrue(is_rising_ring(system, caught.exception.ring))

    def test_against_all_small_heights(self):
        source = random.Random(32)
        for _ in range(250):
            count = source.randint(1, 4)
            system = random_system(source, count, source.randint(0, 4), source.randint(0, 5), 2, 3)
            self.assertEqual(best_heights(system), best_by_search(system, 7), system)
            self.assert_best(system)

    def test_no_better_lift(self):
        source = random.Random(36)
        for _ in range(60):
            system = random_system(source, 7, 10, 12, 50, 9)
            heights = best_heights(system)
            self.assertFalse(has_better_lift(system, heights))

    def test_large_systems(self):
        source = random.Random(40)
        for gap in (1, 3, 20, 1000, 10 ** 6):
            for weight in (1, 9, 99):
                for _ in range(4):
                    self.assert_best(random_system(source, 16, 40, 40, gap, weight))
                    self.assert_best(random_system(source, 16, 12, 40, gap, weight))
                    self.assert_best(random_system(source, 16, 0, 40, gap, weight))

    def test_systems_like_those_of_places(self):
        source = random.Random(61)
        for _ in range(5):
            levels = [list(range(at * 6, at * 6 + 6)) for at in range(6)]
            bounds = tuple((row[at], row[at + 1], source.randint(2, 40)) for row in levels for at in range(5))
            pulls = tuple((source.choice(levels[at]), source.choice(levels[at + 1]), source.randint(-9, 9),
                           source.randint(0, 27)) for at in range(5) for _ in range(12))
            self.assert_best((36, bounds, pulls))


if __name__ == "__main__":
    unittest.main()

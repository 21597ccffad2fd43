"""Points 30 and 31."""

import random
import unittest

from drawnlayers.errors import RisingRing
from drawnlayers.heights.least import least_heights, rising_ring
from drawnlayers.heights.system import keeps
from helpers import all_heights, random_system


def is_rising_ring(system, ring):
    """Point 30, word by word."""
    if not isinstance(ring, tuple) or len(ring) < 2:
        return False
    rows = [system[1][number] for number in ring]
    starts = [row[0] for row in rows]
    return ([row[1] for row in rows] == starts[1:] + starts[:1] and len(set(starts)) == len(starts)
            and sum(row[2] for row in rows) > 0)


class LeastHeightsTest(unittest.TestCase):
    def test_the_example(self):
        system = (2, ((0, 1, 2), (1, 0, -1)), ())
        self.assertIn(rising_ring(system), ((0, 1), (1, 0)))
        with self.assertRaises(RisingRing) as caught:
            least_heights(system)
        self.assertTrue(is_rising_ring(system, caught.exception.ring))

    def test_no_unknowns_and_no_bounds(self):
        self.assertEqual(least_heights((0, (), ())), ())
        self.assertIsNone(rising_ring((0, (), ())))
        self.assertEqual(least_heights((1, (), ())), (0,))
        self.assertEqual(least_heights((3, (), ((0, 1, 9, 9),))), (0, 0, 0))

    def test_a_ring_without_rise(self):
        self.assertIsNone(rising_ring((2, ((0, 1, 2), (1, 0, -2)), ())))
        self.assertEqual(least_heights((2, ((0, 1, 2), (1, 0, -2)), ())), (0, 2))
        self.assertEqual(least_heights((2, ((1, 0, 0), (0, 1, 0)), ())), (0, 0))
        self.assertIsNotNone(rising_ring((2, ((1, 0, 0), (0, 1, 1)), ())))

    def test_negative_gaps(self):
        self.assertEqual(least_heights((2, ((0, 1, -5),), ())), (0, 0))
        self.assertEqual(least_heights((3, ((0, 1, 9), (1, 2, -4)), ())), (0, 9, 5))

    def test_great_gaps(self):
        gap = 10 ** 6
        chain = tuple((at, at + 1, gap) for at in range(15))
        self.assertEqual(least_heights((16, chain, ())), tuple(at * gap for at in range(16)))
        self.assertEqual(least_heights((16, tuple(reversed(chain)), ())), tuple(at * gap for at in range(16)))
        closing = ((15, 0, -gap),)
        self.assertTrue(is_rising_ring((16, chain + closing, ()), rising_ring((16, chain + closing, ()))))
        self.assertIsNone(rising_ring((2, ((0, 1, gap), (1, 0, -gap)), ())))
        self.assertIsNotNone(rising_ring((2, ((0, 1, gap), (1, 0, 1 - gap)), ())))

    def test_repeated_bounds(self):
        system = (2, ((0, 1, 1), (0, 1, 3), (1, 0, -3), (1, 0, -2)), ())
        ring = rising_ring(system)
        self.assertTrue(is_rising_ring(system, ring))
        self.assertEqual(set(ring), {1, 3})

    def test_a_ring_that_is_not_the_only_one(self):
        system = (5, ((0, 1, 1), (1, 0, -1), (1, 2, 0), (2, 3, 1), (3, 4, 1), (4, 2, -1)), ())
        self.assertTrue(is_rising_ring(system, rising_ring(system)))

    def test_against_all_small_heights(self):
        source = random.Random(31)
        rising = 0
        for _ in range(300):
            count = source.randint(1, 4)
            system = random_system(source, count, source.randint(0, 5), 0, 2, 0, rising=True)
            fitting = [heights for heights in all_heights(count, 7) if keeps(system, heights)]
            ring = rising_ring(system)
            self.assertEqual(ring is None, bool(fitting))
            if ring is None:
                self.assertEqual(least_heights(system), tuple(min(row) for row in zip(*fitting)))
                continue
            rising += 1
            self.assertTrue(is_rising_ring(system, ring))
            with self.assertRaises(RisingRing) as caught:
                least_heights(system)
            self.assertTrue(is_rising_ring(system, caught.exception.ring))
        self.assertGreater(rising, 30)

    def test_large_systems(self):
        source = random.Random(32)
        rising = 0
        for at in range(200):
            system = random_system(source, 16, 40, 0, 10 ** 6, 0, rising=(at < 100))
            ring = rising_ring(system)
            if ring is not None:
                rising += 1
                self.assertTrue(is_rising_ring(system, ring))
                continue
            heights = least_heights(system)
            self.assertTrue(keeps(system, heights))
            for unknown, height in enumerate(heights):
                lower = heights[:unknown] + (height - 1,) + heights[unknown + 1:]
                self.assertTrue(height == 0 or not keeps(system, lower))
        self.assertGreater(rising, 50)
        self.assertLessEqual(rising, 100)


if __name__ == "__main__":
    unittest.main()

"""Point 19."""

import random
import unittest

from drawnlayers.base.paths import part_marks, shortest_path
from drawnlayers.base.rings import find_ring
from helpers import has_ring


def is_ring(arcs, ring):
    if not isinstance(ring, tuple) or len(ring) == 0:
        return False
    starts = [arcs[number][0] for number in ring]
    ends = [arcs[number][1] for number in ring]
    return len(set(starts)) == len(starts) and ends == starts[1:] + starts[:1]


class RingsTest(unittest.TestCase):
    def test_none(self):
        self.assertIsNone(find_ring(0, ()))
        self.assertIsNone(find_ring(5, ()))
        self.assertIsNone(find_ring(2, ((0, 1),)))
        self.assertIsNone(find_ring(3, ((0, 1), (0, 1), (1, 2), (0, 2))))

    def test_an_arc_from_a_number_to_itself(self):
        self.assertEqual(find_ring(1, ((0, 0),)), (0,))
        self.assertEqual(find_ring(3, ((0, 1), (1, 2), (2, 2))), (2,))

    def test_repeated_arcs(self):
        self.assertTrue(is_ring(((0, 1), (0, 1), (1, 0), (1, 0)), find_ring(2, ((0, 1), (0, 1), (1, 0), (1, 0)))))

    def test_a_long_ring(self):
        arcs = tuple((at, (at + 1) % 40) for at in range(40))
        ring = find_ring(40, arcs)
        self.assertTrue(is_ring(arcs, ring))
        self.assertEqual(len(ring), 40)
        self.assertIsNone(find_ring(40, arcs[:-1]))

    def test_a_ring_behind_a_long_way_and_with_dead_ends(self):
        arcs = tuple((at, at + 1) for at in range(39)) + ((39, 37), (5, 3))
        self.assertTrue(is_ring(arcs, find_ring(40, arcs)))
        arcs = ((0, 1), (2, 0), (2, 3), (3, 4), (3, 2), (4, 1))
        self.assertTrue(is_ring(arcs, find_ring(5, arcs)))

    def test_random_arcs(self):
        source = random.Random(19)
        found = 0
        for _ in range(400):
            count = source.randint(1, 12)
            arcs = tuple((source.randrange(count), source.randrange(count)) for _ in range(source.randint(0, 14)))
            ring = find_ring(count, arcs)
            self.assertEqual(ring is not None, has_ring(count, arcs))
            if ring is not None:
                found += 1
                self.assertTrue(is_ring(arcs, ring))
            self.assertEqual(ring, find_ring(count, arcs))
        self.assertGreater(found, 50)


class PathsTest(unittest.TestCase):
    def test_shortest_path(self):
        arcs = ((0, 1), (1, 2), (2, 3), (0, 2))
        self.assertEqual(shortest_path(arcs, 0, 3), (3, 2))
        self.assertEqual(shortest_path(arcs, 0, 0), ())
        self.assertIsNone(shortest_path(arcs, 3, 0))
        self.assertIsNone(shortest_path((), 0, 1))

    def test_part_marks(self):
        self.assertEqual(part_marks(5, [(4, 2), (1, 2)]), [0, 1, 1, 3, 1])
        self.assertEqual(part_marks(0, []), [])


if __name__ == "__main__":
    unittest.main()

"""Point 36."""

import random
import unittest

from drawnlayers.heights.best import best_heights
from drawnlayers.heights.least import least_heights
from drawnlayers.heights.lifts import better_lift
from drawnlayers.heights.system import cost, keeps
from helpers import random_system
from test_best import has_better_lift

GAP = 10 ** 6


def lifted(heights, lift):
    return tuple(height + (at in lift) for at, height in enumerate(heights))


def is_better_lift(system, heights, lift):
    """Point 36, word by word."""
    if not isinstance(lift, tuple) or list(lift) != sorted(set(lift)) or not set(lift) <= set(range(system[0])):
        return False
    return keeps(system, lifted(heights, lift)) and cost(system, lifted(heights, lift)) < cost(system, heights)


def raised_heights(source, system):
    """Some heights that keep all bounds."""
    heights = [source.randint(0, 9) for _ in range(system[0])]
    while not keeps(system, heights):
        for start, end, gap in system[1]:
            heights[end] = max(heights[end], heights[start] + gap)
    return tuple(heights)


class LiftsTest(unittest.TestCase):
    def assert_lift(self, system, heights, searched=True):
        """Check what is returned for these heights, and return it."""
        self.assertTrue(keeps(system, heights))
        lift = better_lift(system, heights)
        self.assertEqual(lift is None, cost(system, heights) == cost(system, best_heights(system)))
        if searched:
            self.assertEqual(lift is not None, has_better_lift(system, heights))
        if lift is not None:
            self.assertTrue(is_better_lift(system, heights, lift), lift)
        return lift

    def test_one_pull(self):
        system = (2, (), ((0, 1, 5, 1),))
        self.assertEqual(better_lift(system, (0, 0)), (1,))
        self.assertEqual(better_lift(system, (0, 4)), (1,))
        self.assertIsNone(better_lift(system, (0, 5)))
        self.assertIsNone(better_lift(system, (9, 14)))
        self.assertEqual(better_lift(system, (0, 6)), (0,))
        self.assertEqual(better_lift(system, (3, 0)), (1,))
        turned = (2, (), ((1, 0, -5, 1),))
        self.assertEqual(better_lift(turned, (0, 0)), (1,))
        self.assertEqual(better_lift(turned, (0, 6)), (0,))

    def test_nothing_to_lift(self):
        self.assertIsNone(better_lift((0, (), ()), ()))
        self.assertIsNone(better_lift((1, (), ()), (7,)))
        self.assertIsNone(better_lift((3, ((0, 1, 4), (1, 2, 1)), ()), (0, 4, 9)))
        self.assertIsNone(better_lift((2, (), ((0, 1, 5, 0),)), (9, 0)))

    def test_best_heights_that_are_not_the_least_ones(self):
        system = (3, ((0, 1, 2), (1, 2, 2)), ((0, 2, 1, 3),))
        self.assertEqual(best_heights(system), (0, 2, 4))
        for heights in ((0, 2, 4), (1, 3, 5), (GAP, GAP + 2, GAP + 4)):
            self.assertIsNone(better_lift(system, heights))
        flat = (3, (), ((0, 1, 4, 1), (1, 2, 4, 1), (0, 2, 4, 1)))
        for heights in ((0, 4, 4), (0, 0, 4), (2, 6, 6)):
            self.assertEqual(cost(flat, heights), 4)
            self.assertIsNone(self.assert_lift(flat, heights))

    def test_unknowns_that_only_rise_together(self):
        system = (3, ((0, 1, 0), (1, 2, 0), (2, 0, 0)), ((0, 1, 9, 9), (1, 2, 9, 9)))
        self.assertIsNone(self.assert_lift(system, (4, 4, 4)))
        pushed = (4, ((0, 1, 2), (1, 2, 3)), ((3, 0, 5, 2),))
        self.assertEqual(better_lift(pushed, (0, 2, 5, 0)), (0, 1, 2))
        self.assertEqual(better_lift(pushed, (0, 2, 6, 0)), (0, 1))
        self.assertEqual(better_lift(pushed, (0, 9, 20, 0)), (0,))

    def test_a_lift_that_is_worth_more_than_what_it_costs(self):
        for weight, lift in ((2, None), (3, None), (4, (1, 2))):
            # The bound takes 2 along, whose own pull costs 3 more then.
            system = (3, ((1, 2, 1),), ((0, 1, 9, weight), (0, 2, 1, 3)))
            self.assertEqual(better_lift(system, (0, 0, 1)), lift)

    def test_several_parts(self):
        system = (6, ((0, 1, 2), (2, 3, 2)), ((0, 1, 2, 5), (2, 3, 4, 1), (4, 5, 0, 1)))
        self.assertEqual(better_lift(system, (0, 2, 0, 3, 0, 0)), (3,))
        self.assertIsNone(better_lift(system, (0, 2, 5, 9, 1, 1)))
        lift = self.assert_lift(system, (0, 3, 0, 3, 0, 1))
        self.assertTrue(set(lift) & {0, 3, 4})

    def test_great_gaps(self):
        system = (3, ((0, 1, -GAP), (1, 0, -GAP)), ((0, 1, GAP, 99), (1, 2, -GAP, 99)))
        self.assertIsNone(better_lift(system, (0, GAP, 0)))
        self.assertEqual(better_lift(system, (0, GAP - 1, 0)), (1,))
        self.assertEqual(better_lift(system, (1, GAP, 0)), (1, 2))
        self.assertEqual(better_lift(system, (0, 10 ** 5, 0)), (1,))

    def test_arguments_stay_as_they_are(self):
        system = (2, ((0, 1, 1),), ((0, 1, 5, 1),))
        heights = (0, 1)
        self.assertEqual(better_lift(system, heights), better_lift(system, heights))
        self.assertEqual((system, heights), ((2, ((0, 1, 1),), ((0, 1, 5, 1),)), (0, 1)))

    def test_against_all_lifts(self):
        source = random.Random(36)
        none = 0
        for _ in range(250):
            count = source.randint(1, 6)
            system = random_system(source, count, source.randint(0, 6), source.randint(0, 7), source.choice((1, 3, GAP)),
                                   source.choice((1, 3, 99)))
            least = least_heights(system)
            raised = raised_heights(source, system)
            for heights in (least, raised, best_heights(system)):
                none += self.assert_lift(system, heights) is None
        self.assertGreater(none, 250)
        self.assertLess(none, 700)

    def test_lifts_lead_to_best_heights(self):
        source = random.Random(37)
        for _ in range(40):
            system = random_system(source, 7, 6, 10, 3, 9)
            heights = least_heights(system)
            lift = self.assert_lift(system, heights)
            while lift is not None:
                heights = lifted(heights, lift)
                lift = self.assert_lift(system, heights)
            self.assertEqual(cost(system, heights), cost(system, best_heights(system)))

    def test_large_systems(self):
        source = random.Random(38)
        for gap in (1, 20, GAP):
            for bounds in (0, 15, 40):
                system = random_system(source, 16, bounds, 40, gap, 99)
                self.assertIsNone(self.assert_lift(system, best_heights(system), searched=False))
                self.assert_lift(system, least_heights(system), searched=False)

    def test_systems_as_large_as_those_of_places(self):
        source = random.Random(61)
        for _ in range(4):
            rows = [range(at * 6, at * 6 + 6) for at in range(6)]
            bounds = tuple((row[at], row[at + 1], source.randint(2, 40)) for row in rows for at in range(5))
            pulls = tuple((source.choice(rows[at]), source.choice(rows[at + 1]), source.randint(-9, 9), source.randint(0, 27))
                          for at in range(5) for _ in range(13))
            system = (36, bounds, pulls)
            self.assertIsNone(self.assert_lift(system, best_heights(system), searched=False))
            self.assertIsNotNone(self.assert_lift(system, least_heights(system), searched=False))


if __name__ == "__main__":
    unittest.main()

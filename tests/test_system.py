"""Points 29 and 33, with the example of point 35."""

import random
import unittest

from drawnlayers.heights.system import cost, is_balanced, keeps, worth
from helpers import random_system

EXAMPLE = (3, ((0, 1, 2), (1, 2, 2)), ((0, 2, 1, 3),))
NOTHING = (0, (), ())


class HeightsTest(unittest.TestCase):
    def test_the_example(self):
        self.assertIs(keeps(EXAMPLE, (0, 2, 4)), True)
        self.assertEqual(cost(EXAMPLE, (0, 2, 4)), 9)

    def test_no_unknowns(self):
        self.assertIs(keeps(NOTHING, ()), True)
        self.assertEqual(cost(NOTHING, ()), 0)

    def test_kept_and_broken_bounds(self):
        self.assertIs(keeps(EXAMPLE, (0, 1, 4)), False)
        self.assertIs(keeps(EXAMPLE, (0, 2, 3)), False)
        self.assertIs(keeps(EXAMPLE, (5, 9, 99)), True)
        self.assertIs(keeps((2, ((0, 1, 0),), ()), (3, 3)), True)
        self.assertIs(keeps((2, ((0, 1, 0),), ()), (3, 2)), False)
        self.assertIs(keeps((2, (), ()), (9, 0)), True)

    def test_negative_heights_and_gaps(self):
        system = (2, ((0, 1, -3),), ((1, 0, -2, 5),))
        self.assertIs(keeps(system, (-1, -4)), True)
        self.assertIs(keeps(system, (-1, -5)), False)
        self.assertEqual(cost(system, (-1, -4)), 5 * 5)
        self.assertEqual(cost(system, (-4, -1)), 5)
        self.assertEqual(cost(system, (-3, -1)), 0)
        self.assertIs(keeps((2, ((1, 0, 10 ** 6),), ()), (0, -10 ** 6)), True)

    def test_repeated_rows(self):
        system = (2, ((0, 1, 1), (0, 1, 1), (0, 1, 2)), ((0, 1, 0, 2), (0, 1, 0, 2), (1, 0, 0, 3)))
        self.assertIs(keeps(system, (0, 1)), False)
        self.assertIs(keeps(system, (0, 2)), True)
        self.assertEqual(cost(system, (0, 2)), 4 + 4 + 6)

    def test_weights_of_0_cost_nothing(self):
        self.assertEqual(cost((2, (), ((0, 1, 10 ** 6, 0),)), (7, 0)), 0)


class ForcesTest(unittest.TestCase):
    def test_the_example(self):
        self.assertIs(is_balanced(EXAMPLE, ((3,), (3, 3))), True)
        self.assertEqual(worth(EXAMPLE, ((3,), (3, 3))), 9)

    def test_no_unknowns(self):
        self.assertIs(is_balanced(NOTHING, ((), ())), True)
        self.assertEqual(worth(NOTHING, ((), ())), 0)

    def test_forces_at_their_limits_and_one_beyond(self):
        for force in range(-5, 6):
            self.assertIs(is_balanced(EXAMPLE, ((force,), (force, force))), 0 <= force <= 3)
        pulls = (2, (), ((0, 1, 0, 2), (1, 0, 7, 3)))
        for force in range(-5, 6):
            self.assertIs(is_balanced(pulls, ((force, force), ())), -2 <= force <= 2)
        bounds = (2, ((0, 1, 0), (1, 0, 0)), ())
        for force in range(-3, 4):
            self.assertIs(is_balanced(bounds, ((), (force, force))), force >= 0)
        self.assertIs(is_balanced(bounds, ((), (10 ** 39, 10 ** 39))), True)
        self.assertIs(is_balanced(EXAMPLE, ((10 ** 39,), (10 ** 39, 10 ** 39))), False)

    def test_a_weight_of_0_bears_no_force(self):
        system = (2, ((0, 1, 3),), ((0, 1, 3, 0),))
        self.assertIs(is_balanced(system, ((0,), (0,))), True)
        self.assertIs(is_balanced(system, ((1,), (1,))), False)

    def test_unbalanced_unknowns(self):
        for forces in (((3,), (3, 2)), ((3,), (2, 3)), ((2,), (3, 3)), ((0,), (1, 0)), ((-3,), (3, 3))):
            self.assertIs(is_balanced(EXAMPLE, forces), False)
        apart = (4, ((0, 1, 0), (2, 3, 0)), ((0, 1, 0, 2), (2, 3, 0, 2)))
        self.assertIs(is_balanced(apart, ((1, 2), (1, 2))), True)
        self.assertIs(is_balanced(apart, ((1, 2), (2, 1))), False)

    def test_worth(self):
        system = (3, ((0, 1, 5), (1, 2, -7)), ((0, 2, 3, 4), (2, 1, -11, 9)))
        self.assertEqual(worth(system, ((0, 0), (0, 0))), 0)
        self.assertEqual(worth(system, ((2, -5), (7, 1))), 7 * 5 - 7 - (2 * 3 + 55))

    def test_repeated_rows_bear_their_own_forces(self):
        system = (2, ((0, 1, 2), (0, 1, 2)), ((0, 1, 0, 3), (0, 1, 0, 3)))
        self.assertIs(is_balanced(system, ((3, 2), (5, 0))), True)
        self.assertIs(is_balanced(system, ((3, 2), (2, 3))), True)
        self.assertIs(is_balanced(system, ((4, 1), (2, 3))), False)
        self.assertEqual(worth(system, ((3, 2), (2, 3))), 10)

    def test_no_heights_cost_less_than_the_worth(self):
        source = random.Random(33)
        balanced = 0
        for _ in range(4000):
            system = random_system(source, 2, 2, 2, 3, 2)
            forces = (tuple(source.randint(-2, 2) for _ in range(2)), tuple(source.randint(0, 2) for _ in range(2)))
            if is_balanced(system, forces):
                balanced += 1
                for first in range(5):
                    for second in range(5):
                        if keeps(system, (first, second)):
                            self.assertGreaterEqual(cost(system, (first, second)), worth(system, forces))
        self.assertGreater(balanced, 100)


if __name__ == "__main__":
    unittest.main()

"""Points 33 and 34, with the example of point 35."""

import random
import unittest

from drawnlayers.errors import RisingRing
from drawnlayers.heights.best import best_heights
from drawnlayers.heights.certificate import certificate, check_forces, check_reasons
from drawnlayers.heights.system import cost, is_balanced, keeps, worth
from helpers import random_system
from test_best import best_by_search
from test_least_heights import is_rising_ring

EXAMPLE = (3, ((0, 1, 2), (1, 2, 2)), ((0, 2, 1, 3),))
HEIGHTS = (0, 2, 4)
FORCES = ((3,), (3, 3))
REASONS = (None, ("bound", 0), ("bound", 1))
GAP = 10 ** 6


def below(system, heights, forces, unknown, reason):
    """The other unknown y of one of the four ways of point 34, or None if the reason is none of them."""
    word, number = reason
    rows = {"bound": system[1], "pull": system[2]}[word]
    if not 0 <= number < len(rows):
        return None
    start, end, gap = rows[number][:3]
    force = forces[1][number] if word == "bound" else forces[0][number]
    weight = rows[number][3] if word == "pull" else None
    if end == unknown and heights[end] == heights[start] + gap:
        if word == "bound" or force > -weight:
            return start
    if start == unknown and heights[start] == heights[end] - gap:
        if force > 0 if word == "bound" else force < weight:
            return end
    return None


def are_reasons(system, heights, forces, reasons):
    """Point 34, word by word, for forces that support the heights."""
    others = []
    for unknown, reason in enumerate(reasons):
        if heights[unknown] == 0:
            if reason is not None:
                return False
            others.append(None)
            continue
        if reason is None:
            return False
        others.append(below(system, heights, forces, unknown, reason))
        if others[-1] is None:
            return False
    for unknown in range(system[0]):
        seen = set()
        while others[unknown] is not None:
            if unknown in seen:
                return False
            seen.add(unknown)
            unknown = others[unknown]
    return True


def support(system, heights, forces):
    return keeps(system, heights) and is_balanced(system, forces) and worth(system, forces) == cost(system, heights)


class CertificateTest(unittest.TestCase):
    def assert_certified(self, system):
        found = certificate(system)
        self.assertIsInstance(found, tuple)
        heights, forces, reasons = found
        self.assertEqual(heights, best_heights(system))
        self.assertEqual([len(part) for part in forces], [len(system[2]), len(system[1])])
        for part in (heights, forces, *forces, reasons):
            self.assertIsInstance(part, tuple)
        self.assertTrue(support(system, heights, forces))
        self.assertEqual(len(reasons), system[0])
        self.assertTrue(are_reasons(system, heights, forces, reasons))
        self.assertIs(check_forces(system, heights, forces), True)
        self.assertIs(check_reasons(system, heights, forces, reasons), True)
        self.assertEqual(certificate(system), found)
        return found

    def test_the_example(self):
        self.assertEqual(certificate(EXAMPLE), (HEIGHTS, FORCES, REASONS))
        self.assert_certified(EXAMPLE)

    def test_no_unknowns_and_no_rows(self):
        self.assertEqual(certificate((0, (), ())), ((), ((), ()), ()))
        self.assertEqual(certificate((2, (), ())), ((0, 0), ((), ()), (None, None)))
        self.assert_certified((0, (), ()))
        self.assertIs(check_forces((0, (), ()), (), ((), ())), True)
        self.assertIs(check_reasons((0, (), ()), (), ((), ()), ()), True)

    def test_rising_rings(self):
        for system in ((2, ((0, 1, 2), (1, 0, -1)), ()), (3, ((2, 1, GAP), (0, 1, 3), (1, 2, 1 - GAP)), ((0, 1, 1, 9),))):
            with self.assertRaises(RisingRing) as caught:
                certificate(system)
            self.assertTrue(is_rising_ring(system, caught.exception.ring))

    def test_weights_of_0(self):
        self.assertEqual(certificate((2, ((0, 1, 3),), ((0, 1, 9, 0),))), ((0, 3), ((0,), (0,)), (None, ("bound", 0))))
        self.assertEqual(certificate((2, (), ((0, 1, 9, 0),))), ((0, 0), ((0,), ()), (None, None)))

    def test_each_of_the_four_ways(self):
        self.assertEqual(certificate((2, ((0, 1, 3),), ()))[2], (None, ("bound", 0)))
        self.assertEqual(certificate((2, (), ((0, 1, 3, 1),)))[2], (None, ("pull", 0)))
        self.assertEqual(certificate((2, (), ((1, 0, -3, 1),)))[2], (None, ("pull", 0)))
        # The pulls would have 0 at 7 above 1, but the bound lets it be only 5 above it.
        heights, _, reasons = self.assert_certified((3, ((0, 1, -5),), ((1, 2, 3, 1), (2, 0, 4, 2))))
        self.assertEqual((heights, reasons), ((5, 0, 1), (("bound", 0), None, ("pull", 1))))

    def test_great_gaps_and_weights(self):
        chain = tuple((at, at + 1, GAP) for at in range(15))
        pulls = tuple((at, at + 1, -GAP, 99) for at in range(15)) + ((0, 15, GAP, 1),)
        self.assert_certified((16, chain, pulls))
        self.assert_certified((2, (), ((0, 1, GAP, 99), (0, 1, -GAP, 98))))
        self.assert_certified((2, ((0, 1, -GAP), (1, 0, -GAP)), ((1, 0, GAP, 99),)))

    def test_random_systems(self):
        source = random.Random(34)
        words = set()
        for _ in range(300):
            count = source.randint(1, 6)
            system = random_system(source, count, source.randint(0, 7), source.randint(0, 7), source.choice((1, 4, GAP)),
                                   source.choice((1, 9, 99)))
            heights, forces, reasons = self.assert_certified(system)
            for unknown, reason in enumerate(reasons):
                if reason is not None:
                    rows = system[1] if reason[0] == "bound" else system[2]
                    words.add((reason[0], rows[reason[1]][0] == unknown))
        self.assertEqual(len(words), 4)

    def test_small_systems_against_a_search(self):
        source = random.Random(35)
        for _ in range(60):
            system = random_system(source, source.randint(1, 3), source.randint(0, 4), source.randint(0, 5), 2, 3)
            self.assertEqual(self.assert_certified(system)[0], best_by_search(system, 7))

    def test_large_systems(self):
        source = random.Random(36)
        for gap in (1, 20, GAP):
            for bounds in (0, 15, 40):
                for _ in range(3):
                    self.assert_certified(random_system(source, 16, bounds, 40, gap, 99))

    def test_systems_as_large_as_those_of_places(self):
        source = random.Random(61)
        for _ in range(4):
            rows = [range(at * 7, min(at * 7 + 7, 36)) for at in range(6)]
            bounds = tuple((row[at], row[at + 1], source.randint(2, 60)) for row in rows for at in range(len(row) - 1))
            pulls = tuple((source.choice(rows[at]), source.choice(rows[at + 1]), source.randint(-9, 9), source.randint(0, 27))
                          for at in range(5) for _ in range(13))
            self.assert_certified((36, bounds, pulls))


class CheckForcesTest(unittest.TestCase):
    def test_the_example(self):
        self.assertIs(check_forces(EXAMPLE, HEIGHTS, FORCES), True)

    def test_best_heights_that_are_not_the_least_ones(self):
        self.assertIs(check_forces(EXAMPLE, (7, 9, 11), FORCES), True)

    def test_heights_that_break_a_bound(self):
        self.assertIs(check_forces(EXAMPLE, (0, 1, 4), FORCES), False)
        # Here only the bound without a force is broken, so the cost is still the worth.
        system = (3, ((0, 1, 2), (0, 2, 1)), ((0, 1, 1, 1),))
        self.assertIs(check_forces(system, (0, 2, 1), ((1,), (1, 0))), True)
        self.assertIs(check_forces(system, (0, 2, 0), ((1,), (1, 0))), False)

    def test_forces_that_do_not_balance_or_keep_their_limits(self):
        for forces in (((3,), (3, 2)), ((3,), (2, 3)), ((2,), (3, 3)), ((-3,), (3, 3)), ((4,), (4, 4)), ((0,), (0, -1))):
            self.assertIs(check_forces(EXAMPLE, HEIGHTS, forces), False)
        # Their worth would fit, but a bound does not pull.
        self.assertIs(check_forces((2, ((0, 1, 0), (1, 0, 0)), ()), (0, 0), ((), (-1, -1))), False)
        self.assertIs(check_forces((2, ((0, 1, 1),), ((0, 1, 1, 2),)), (0, 1), ((-1,), (-1,))), False)
        # A pull does not pull more than its weight.
        self.assertIs(check_forces((2, ((0, 1, 1),), ((0, 1, 1, 2),)), (0, 1), ((2,), (2,))), True)
        self.assertIs(check_forces((2, ((0, 1, 1),), ((0, 1, 1, 2),)), (0, 1), ((3,), (3,))), False)

    def test_balanced_forces_of_too_little_worth(self):
        for force in (0, 1, 2):
            forces = ((force,), (force, force))
            self.assertTrue(is_balanced(EXAMPLE, forces))
            self.assertIs(check_forces(EXAMPLE, HEIGHTS, forces), False)

    def test_heights_that_cost_too_much(self):
        self.assertIs(check_forces(EXAMPLE, (0, 2, 5), FORCES), False)
        self.assertIs(check_forces((2, (), ((0, 1, GAP, 99),)), (0, GAP), ((0,), ())), True)
        self.assertIs(check_forces((2, (), ((0, 1, GAP, 99),)), (0, GAP - 1), ((0,), ())), False)
        self.assertIs(check_forces((2, (), ((0, 1, GAP, 0),)), (0, 5), ((0,), ())), True)

    def test_one_number_changed(self):
        source = random.Random(331)
        for _ in range(150):
            system = random_system(source, 4, 4, 4, 3, 3)
            heights, forces, _ = certificate(system)
            for side in (0, 1):
                for at in range(len(forces[side])):
                    for more in (-1, 1, 10 ** 39):
                        parts = [list(part) for part in forces]
                        parts[side][at] += more
                        changed = (tuple(parts[0]), tuple(parts[1]))
                        self.assertIs(check_forces(system, heights, changed), support(system, heights, changed))
            for at in range(4):
                for more in (-1, 1, GAP):
                    changed = heights[:at] + (max(heights[at] + more, 0),) + heights[at + 1:]
                    self.assertIs(check_forces(system, changed, forces), support(system, changed, forces))


class CheckReasonsTest(unittest.TestCase):
    def assert_wrong(self, reasons, system=EXAMPLE, heights=HEIGHTS, forces=FORCES):
        self.assertIs(check_forces(system, heights, forces), True)
        self.assertIs(check_reasons(system, heights, forces, reasons), False)

    def assert_right(self, reasons, system=EXAMPLE, heights=HEIGHTS, forces=FORCES):
        self.assertIs(check_reasons(system, heights, forces, reasons), True)

    def test_the_example(self):
        self.assert_right(REASONS)

    def test_forces_that_do_not_support_the_heights(self):
        self.assertIs(check_reasons(EXAMPLE, HEIGHTS, ((2,), (2, 2)), REASONS), False)
        self.assertIs(check_reasons(EXAMPLE, (0, 2, 5), FORCES, REASONS), False)
        self.assertIs(check_reasons(EXAMPLE, (0, 1, 3), FORCES, REASONS), False)

    def test_none_above_0_and_pairs_at_0(self):
        self.assert_wrong((None, None, ("bound", 1)))
        self.assert_wrong((None, ("bound", 0), None))
        self.assert_wrong((("bound", 0), ("bound", 0), ("bound", 1)))
        self.assert_wrong((None, None, None))
        # The pair fits but for the height of 0.
        equal = (2, ((0, 1, 0), (1, 0, 0)), ())
        self.assert_right((None, None), equal, (0, 0), ((), (0, 0)))
        self.assert_wrong((None, ("bound", 0)), equal, (0, 0), ((), (0, 0)))

    def test_numbers_outside_of_the_list_and_wrong_words(self):
        for reason in (("bound", 2), ("bound", -1), ("bound", -2), ("bound", 10 ** 39), ("pull", 0), ("pull", 1), ("pull", -1)):
            self.assert_wrong((None, reason, ("bound", 1)))
            self.assert_wrong((None, ("bound", 0), reason))

    def test_bounds_and_pulls_of_other_unknowns(self):
        self.assert_wrong((None, ("bound", 0), ("bound", 0)))
        system = (4, ((0, 1, 2), (2, 3, 2)), ())
        self.assert_right((None, ("bound", 0), None, ("bound", 1)), system, (0, 2, 0, 2), ((), (0, 0)))
        self.assert_wrong((None, ("bound", 1), None, ("bound", 1)), system, (0, 2, 0, 2), ((), (0, 0)))

    def test_a_bound_with_slack(self):
        system = (2, ((0, 1, 2), (0, 1, 1)), ())
        self.assert_right((None, ("bound", 0)), system, (0, 2), ((), (0, 0)))
        self.assert_wrong((None, ("bound", 1)), system, (0, 2), ((), (0, 0)))

    def test_a_bound_from_above_needs_a_force(self):
        # Both the bound and the pull hold 0 at 3 above 1.
        system = (2, ((0, 1, -3),), ((0, 1, -4, 2),))
        self.assert_right((("bound", 0), None), system, (3, 0), ((2,), (2,)))
        slack = (2, ((0, 1, -3),), ((0, 1, -3, 2),))
        self.assert_wrong((("bound", 0), None), slack, (3, 0), ((0,), (0,)))
        self.assert_right((("pull", 0), None), slack, (3, 0), ((0,), (0,)))
        self.assert_right((("bound", 0), None), slack, (3, 0), ((1,), (1,)))

    def test_a_pull_at_its_full_weight_holds_to_one_side_only(self):
        # Two pulls against each other: the first one pulls with all its weight, the second one need not.
        system = (2, (), ((0, 1, 3, 1), (0, 1, 3, 2)))
        self.assert_right((None, ("pull", 0)), system, (0, 3), ((1, -1), ()))
        self.assert_wrong((None, ("pull", 0)), system, (0, 3), ((-1, 1), ()))
        self.assert_right((None, ("pull", 1)), system, (0, 3), ((-1, 1), ()))
        turned = (2, (), ((1, 0, -3, 1), (1, 0, -3, 2)))
        self.assert_right((None, ("pull", 0)), turned, (0, 3), ((-1, 1), ()))
        self.assert_wrong((None, ("pull", 0)), turned, (0, 3), ((1, -1), ()))
        self.assert_right((None, ("pull", 1)), turned, (0, 3), ((1, -1), ()))

    def test_a_pull_that_is_not_at_its_gap(self):
        system = (2, ((0, 1, 4),), ((0, 1, 3, 2),))
        self.assert_right((None, ("bound", 0)), system, (0, 4), ((2,), (2,)))
        self.assert_wrong((None, ("pull", 0)), system, (0, 4), ((2,), (2,)))

    def test_pairs_that_lead_round_in_a_ring(self):
        system = (3, ((0, 1, 1), (1, 2, 1), (2, 1, -1)), ())
        forces = ((), (0, 0, 0))
        self.assert_right((None, ("bound", 0), ("bound", 1)), system, (0, 1, 2), forces)
        self.assert_wrong((None, ("bound", 2), ("bound", 1)), system, (0, 1, 2), forces)
        # Best heights that are not the least ones: every pair fits by itself.
        self.assert_wrong((None, ("bound", 2), ("bound", 1)), system, (0, 4, 5), forces)
        pulls = (3, (), ((1, 2, 0, 5), (2, 1, 0, 5)))
        self.assert_wrong((None, ("pull", 0), ("pull", 0)), pulls, (0, 7, 7), ((0, 0), ()))
        self.assert_wrong((None, ("pull", 1), ("pull", 0)), pulls, (0, 7, 7), ((0, 0), ()))

    def test_each_condition_on_random_reasons(self):
        source = random.Random(341)
        answers = {True: 0, False: 0}
        pairs = [(word, number) for word in ("bound", "pull") for number in range(-1, 6)]
        for _ in range(400):
            system = random_system(source, 3, 5, 5, 1, 2)
            heights, forces, reasons = certificate(system)
            for _ in range(30):
                changed = list(reasons)
                for at in range(3):
                    if source.random() < 0.4:
                        changed[at] = source.choice((None, *pairs))
                changed = tuple(changed)
                wanted = are_reasons(system, heights, forces, changed)
                self.assertIs(check_reasons(system, heights, forces, changed), wanted)
                answers[wanted] += changed != reasons
                lifted = tuple(height + 1 for height in heights)
                self.assertIs(check_reasons(system, lifted, forces, changed), are_reasons(system, lifted, forces, changed))
        self.assertGreater(min(answers.values()), 60)


if __name__ == "__main__":
    unittest.main()

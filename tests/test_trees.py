"""Points 37 and 38."""

import itertools
import random
import unittest

from drawnlayers.errors import RisingRing
from drawnlayers.heights.best import best_heights
from drawnlayers.heights.spanning import spanning_tree
from drawnlayers.heights.system import cost, keeps
from drawnlayers.heights.trees import check_tree, cut_value, link_system, tree_heights
from test_least_heights import is_rising_ring

EXAMPLE = ((0, 1, 1, 1), (1, 2, 1, 1), (0, 2, 1, 5), (3, 2, 1, 1))
SKEW = ((0, 2, 1, 3), (1, 2, 3, 2))


def parts_of(count, links):
    """The connected parts, as a dict from each unknown to a set."""
    parts = {at: {at} for at in range(count)}
    for start, end, _, _ in links:
        joined = parts[start] | parts[end]
        for at in joined:
            parts[at] = joined
    return parts


def cut_by_words(count, links, tree, number):
    parts = parts_of(count, [links[other] for other in tree if other != number])
    start_part, end_part = parts[links[number][0]], parts[links[number][1]]
    onward = sum(link[3] for link in links if link[0] in start_part and link[1] in end_part)
    return onward - sum(link[3] for link in links if link[0] in end_part and link[1] in start_part)


def is_tree_by_words(count, links, heights, tree):
    """Point 38, word by word."""
    if any(heights[link[1]] - heights[link[0]] < link[2] for link in links):
        return False
    chosen = [links[number] for number in tree]
    if any(heights[link[1]] - heights[link[0]] != link[2] for link in chosen):
        return False
    for at, link in enumerate(chosen):
        if link[1] in parts_of(count, chosen[:at])[link[0]]:
            return False
    if parts_of(count, chosen) != parts_of(count, links):
        return False
    return all(cut_by_words(count, links, tree, number) >= 0 for number in tree)


def random_links(source, rising=False):
    count = source.randint(1, 10)
    links = []
    for _ in range(source.randint(0, 20) if count > 1 else 0):
        start, end = source.sample(range(count), 2)
        if not rising:
            start, end = min(start, end), max(start, end)
        links.append((start, end, source.randint(1, 4), source.randint(0, 9)))
    order = list(range(count))
    source.shuffle(order)
    return count, tuple((order[start], order[end], gap, weight) for start, end, gap, weight in links)


class TreesTest(unittest.TestCase):
    def assert_tree(self, count, links):
        heights, tree, cuts = tree_heights(count, links)
        for part in (heights, tree, cuts):
            self.assertIsInstance(part, tuple)
        system = link_system(count, links)
        self.assertTrue(keeps(system, heights))
        self.assertEqual(cost(system, heights), cost(system, best_heights(system)))
        for part in parts_of(count, links).values():
            self.assertEqual(min(heights[at] for at in part), 0)
        self.assertEqual(list(tree), sorted(set(tree)))
        self.assertTrue(is_tree_by_words(count, links, heights, tree))
        self.assertEqual(cuts, tuple(cut_by_words(count, links, tree, number) for number in tree))
        self.assertEqual(cuts, tuple(cut_value(count, links, tree, number) for number in tree))
        self.assertTrue(all(cut >= 0 for cut in cuts))
        self.assertIs(check_tree(count, links, heights, tree), True)
        return heights, tree

    def test_link_systems(self):
        self.assertEqual(link_system(4, EXAMPLE), (
            4, ((0, 1, 1), (1, 2, 1), (0, 2, 1), (3, 2, 1)),
            ((0, 1, 1, 1), (1, 2, 1, 1), (0, 2, 1, 5), (3, 2, 1, 1))))
        self.assertEqual(link_system(0, ()), (0, (), ()))
        self.assertEqual(link_system(3, ()), (3, (), ()))

    def test_the_example_of_point_41(self):
        self.assertEqual(tree_heights(4, EXAMPLE), ((0, 1, 2, 1), (0, 1, 3), (6, 6, 1)))
        self.assertIs(check_tree(4, EXAMPLE, (0, 1, 2, 1), (0, 1, 3)), True)
        self.assertEqual([cut_value(4, EXAMPLE, (0, 1, 3), number) for number in (0, 1, 3)], [6, 6, 1])

    def test_no_unknowns_and_no_links(self):
        self.assertEqual(tree_heights(0, ()), ((), (), ()))
        self.assertEqual(tree_heights(3, ()), ((0, 0, 0), (), ()))
        self.assertIs(check_tree(0, (), (), ()), True)
        self.assertIs(check_tree(3, (), (0, -5, 9), ()), True)

    def test_heights_that_are_best_but_not_the_least(self):
        self.assertEqual(best_heights(link_system(3, SKEW)), (2, 0, 3))
        heights, tree = self.assert_tree(3, SKEW)
        self.assertEqual((heights, tree), ((2, 0, 3), (0, 1)))
        links = ((0, 2, 1, 0), (1, 2, 3, 2))
        self.assertEqual(best_heights(link_system(3, links)), (0, 0, 3))
        self.assertEqual(tree_heights(3, links), ((2, 0, 3), (0, 1), (0, 2)))

    def test_several_parts_and_unknowns_without_links(self):
        links = ((4, 1, 2, 3), (6, 3, 1, 0), (3, 0, 4, 1))
        heights, tree = self.assert_tree(8, links)
        self.assertEqual(tree, (0, 1, 2))
        self.assertEqual(heights, (5, 2, 0, 1, 0, 0, 0, 0))

    def test_links_that_stand_twice(self):
        links = ((0, 1, 2, 3), (0, 1, 2, 3), (0, 1, 1, 9))
        heights, tree = self.assert_tree(2, links)
        self.assertEqual(heights, (0, 2))
        self.assertIn(tree, ((0,), (1,)))
        self.assertEqual(cut_value(2, links, (0,), 0), 15)
        self.assertIs(check_tree(2, links, (0, 2), (0,)), True)
        self.assertIs(check_tree(2, links, (0, 2), (1,)), True)
        self.assertIs(check_tree(2, links, (0, 2), (0, 1)), False)
        self.assertIs(check_tree(2, links, (0, 2), (2,)), False)
        self.assertIs(check_tree(2, links, (0, 2), ()), False)

    def test_negative_cut_values(self):
        links = ((0, 1, 1, 1), (0, 2, 2, 9), (1, 3, 1, 9), (2, 3, 1, 1))
        heights = (0, 1, 2, 3)
        self.assertEqual(cut_value(4, links, (0, 1, 3), 0), 1 - 9)
        self.assertIs(check_tree(4, links, heights, (0, 1, 3)), False)
        self.assert_tree(4, links)

    def test_cut_values_of_any_tree(self):
        source = random.Random(38)
        for _ in range(80):
            count, links = random_links(source)
            heights, tree, _ = tree_heights(count, links)
            tight = [at for at, link in enumerate(links) if heights[link[1]] - heights[link[0]] == link[2]]
            for other in itertools.islice(itertools.combinations(tight, len(tree)), 40):
                chosen = [links[number] for number in other]
                if parts_of(count, chosen) == parts_of(count, links):
                    for number in other:
                        self.assertEqual(cut_value(count, links, other, number), cut_by_words(count, links, other, number))
                self.assertEqual(check_tree(count, links, heights, other), is_tree_by_words(count, links, heights, other))

    def test_random_links(self):
        source = random.Random(37)
        for _ in range(250):
            count, links = random_links(source)
            self.assert_tree(count, links)
            self.assertEqual(tree_heights(count, links), tree_heights(count, links))

    def test_what_is_wrong_in_one_place(self):
        source = random.Random(39)
        for _ in range(120):
            count, links = random_links(source)
            heights, tree, _ = tree_heights(count, links)
            for at in range(count):
                for change in (-2, -1, 1):
                    moved = heights[:at] + (heights[at] + change,) + heights[at + 1:]
                    self.assertEqual(check_tree(count, links, moved, tree), is_tree_by_words(count, links, moved, tree))
            for number in range(len(links)):
                other = tuple(sorted(set(tree) ^ {number}))
                self.assertIs(check_tree(count, links, heights, other), False)
            lifted = tuple(height - 100 for height in heights)
            self.assertIs(check_tree(count, links, lifted, tree), True)

    def test_trees_from_forces_that_run_in_rings(self):
        diamond = ((0, 1, 1, 1), (0, 2, 1, 1), (1, 3, 1, 1), (2, 3, 1, 1), (0, 3, 2, 0))
        tree = spanning_tree(4, diamond, (0, 1, 1, 2), ((1, 1, 1, 1, 0), (1, 1, 1, 1, 0)))
        self.assertTrue(is_tree_by_words(4, diamond, (0, 1, 1, 2), tree))
        source = random.Random(67)
        for _ in range(200):
            count = source.randint(2, 10)
            heights = tuple(source.randint(0, 6) for _ in range(count))
            pairs = [(a, b) for a in range(count) for b in range(count) if 1 <= heights[b] - heights[a] <= 4]
            chosen = [source.choice(pairs) for _ in range(source.randint(0, 20))] if pairs else []
            links = tuple((a, b, heights[b] - heights[a], source.randint(0, 9)) for a, b in chosen)
            # Where every link has just its gap, forces as great as the weights support the heights.
            weights = tuple(link[3] for link in links)
            tree = spanning_tree(count, links, heights, (weights, weights))
            self.assertTrue(is_tree_by_words(count, links, heights, tree), (links, heights, tree))

    def test_rising_rings(self):
        with self.assertRaises(RisingRing) as caught:
            tree_heights(2, ((0, 1, 1, 1), (1, 0, 1, 1)))
        self.assertIn(caught.exception.ring, ((0, 1), (1, 0)))
        source = random.Random(30)
        rising = 0
        for _ in range(60):
            count, links = random_links(source, rising=True)
            try:
                tree_heights(count, links)
            except RisingRing as error:
                rising += 1
                self.assertTrue(is_rising_ring(link_system(count, links), error.ring))
        self.assertGreater(rising, 20)


if __name__ == "__main__":
    unittest.main()

"""Point 20."""

import random
import unittest

from drawnlayers.arrange.costs import Costs
from drawnlayers.errors import NoPair, SizesDiffer
from helpers import random_rows


def as_tuples(rows):
    return tuple(tuple(row) for row in rows)


class CostsTest(unittest.TestCase):
    def test_sizes(self):
        for size in range(9):
            costs = Costs(size)
            self.assertEqual(costs.size, size)
            self.assertEqual(costs.rows(), ((0,) * size,) * size)
            for a in range(size):
                for b in range(size):
                    if a != b:
                        self.assertEqual(costs[a, b], 0)

    def test_asking_and_putting(self):
        costs = Costs(3)
        costs[0, 1] = 5
        self.assertIsNone(costs.put(2, 0, 10 ** 9))
        self.assertEqual(costs.rows(), ((0, 5, 0), (0, 0, 0), (10 ** 9, 0, 0)))
        self.assertEqual([costs[0, 1], costs[1, 0], costs[2, 0]], [5, 0, 10 ** 9])
        costs[0, 1] = 0
        self.assertEqual(costs[0, 1], 0)
        pair = (2, 0)
        self.assertEqual(costs[pair], 10 ** 9)

    def test_pairs_outside_of_the_table(self):
        great = 10 ** 39
        for size in (0, 1, 2, 8):
            costs = Costs.of([[0 if a == b else 7 for b in range(size)] for a in range(size)])
            before = costs.rows()
            numbers = (-great, -9, -8, -2, -1, 0, 1, size - 1, size, size + 1, great)
            for a in numbers:
                for b in numbers:
                    if a != b and 0 <= a < size and 0 <= b < size:
                        self.assertEqual(costs[a, b], 7)
                        continue
                    for call in (lambda: costs[a, b], lambda: costs.put(a, b, 3), lambda: costs.__setitem__((a, b), 3)):
                        with self.assertRaises(NoPair) as caught:
                            call()
                        self.assertEqual((caught.exception.a, caught.exception.b), (a, b))
            self.assertEqual(costs.rows(), before)

    def test_any_two_integers(self):
        with self.assertRaises(NoPair) as caught:
            Costs(2)[10 ** 5000, -10 ** 5000]
        self.assertEqual(caught.exception.a, 10 ** 5000)

    def test_sums(self):
        source = random.Random(20)
        for size in range(9):
            first, second = random_rows(source, size), random_rows(source, size)
            one, other = Costs.of(first), Costs.of(second)
            both = one + other
            wanted = tuple(tuple(x + y for x, y in zip(*rows)) for rows in zip(first, second))
            self.assertEqual(both.rows(), wanted)
            self.assertIsInstance(both, Costs)
            self.assertEqual(both.size, size)
            self.assertEqual((one.rows(), other.rows()), (as_tuples(first), as_tuples(second)))
            if size > 1:
                both[0, 1] = 3
                self.assertEqual((one[0, 1], other[0, 1]), (first[0][1], second[0][1]))

    def test_sums_in_place(self):
        one, other = Costs.of([[0, 1], [2, 0]]), Costs.of([[0, 10], [20, 0]])
        same = one
        one += other
        self.assertIs(one, same)
        self.assertEqual(same.rows(), ((0, 11), (22, 0)))
        self.assertEqual(other.rows(), ((0, 10), (20, 0)))
        other[0, 1] = 5
        self.assertEqual(one[0, 1], 11)
        one[1, 0] = 1
        self.assertEqual(other[1, 0], 20)

    def test_a_table_added_to_itself(self):
        one = Costs.of([[0, 1, 2], [3, 0, 4], [5, 6, 0]])
        double = one + one
        self.assertEqual(double.rows(), ((0, 2, 4), (6, 0, 8), (10, 12, 0)))
        self.assertEqual(one.rows(), ((0, 1, 2), (3, 0, 4), (5, 6, 0)))
        one += one
        self.assertEqual(one.rows(), double.rows())

    def test_sums_may_be_larger(self):
        one = Costs.of([[0, 10 ** 9], [10 ** 9, 0]])
        for _ in range(40):
            one += one
        self.assertEqual(one[0, 1], 2 ** 40 * 10 ** 9)
        self.assertEqual(Costs.of(one.rows()).rows(), one.rows())

    def test_unlike_sizes(self):
        for first, second in ((0, 1), (1, 0), (2, 3), (3, 2), (8, 0), (0, 8)):
            one, other = Costs(first), Costs(second)
            with self.assertRaises(SizesDiffer) as caught:
                one + other
            self.assertEqual((caught.exception.first, caught.exception.second), (first, second))
            kept = one
            with self.assertRaises(SizesDiffer) as caught:
                one += other
            self.assertEqual((caught.exception.first, caught.exception.second), (first, second))
            self.assertIs(one, kept)
            self.assertEqual((one.size, one.rows()), (first, ((0,) * first,) * first))

    def test_rows_that_are_changed_later(self):
        rows = [[0, 1], [2, 0]]
        costs = Costs.of(rows)
        rows[0][1] = 9
        rows[1] = [7, 7]
        rows.append([1])
        self.assertEqual(costs.rows(), ((0, 1), (2, 0)))
        costs[0, 1] = 4
        self.assertEqual(rows, [[0, 9], [7, 7], [1]])

    def test_rows_as_lists_or_tuples(self):
        wanted = ((0, 1), (2, 0))
        for rows in ([[0, 1], [2, 0]], ((0, 1), (2, 0)), [(0, 1), (2, 0)], ([0, 1], [2, 0]), [[8, 1], [2, -9]]):
            self.assertEqual(Costs.of(rows).rows(), wanted)
            self.assertEqual(Costs.of(rows).size, 2)
        self.assertEqual(Costs.of(()).rows(), ())
        self.assertEqual(Costs.of([]).size, 0)
        self.assertEqual(Costs.of(((5,),)).rows(), ((0,),))

    def test_returned_rows_do_not_change_with_the_table(self):
        costs = Costs.of([[0, 1], [2, 0]])
        rows = costs.rows()
        costs[0, 1] = 7
        costs += costs
        self.assertEqual(rows, ((0, 1), (2, 0)))

    def test_a_table_is_not_iterated_over(self):
        with self.assertRaises(TypeError):
            list(Costs(2))

    def test_methods_are_defined_in_the_class(self):
        for name in ("__getitem__", "__setitem__", "__add__", "__iadd__", "put", "rows", "of"):
            self.assertIn(name, vars(Costs))


if __name__ == "__main__":
    unittest.main()

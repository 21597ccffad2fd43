"""Points 21, 22 and 24."""

import itertools
import random
import unittest

from drawnlayers.arrange.costs import Costs
from drawnlayers.arrange.least import check_table, least_order, order_price, subset_table
from helpers import random_rows

EXAMPLE = [[0, 0, 5], [4, 0, 1], [2, 3, 0]]
EXAMPLE_TABLE = {(): 0, (0,): 0, (1,): 0, (2,): 0, (0, 1): 0, (0, 2): 2, (1, 2): 1, (0, 1, 2): 5}


def price_of(rows, order):
    return sum(rows[a][b] for a, b in itertools.combinations(order, 2))


def least_by_search(rows, members):
    return min((price_of(rows, order), order) for order in itertools.permutations(members))


class LeastTest(unittest.TestCase):
    def test_the_example(self):
        costs = Costs.of(EXAMPLE)
        self.assertEqual(least_order(costs), (5, (2, 0, 1)))
        self.assertEqual(subset_table(costs), EXAMPLE_TABLE)
        self.assertIs(check_table(costs, EXAMPLE_TABLE), True)
        self.assertEqual(order_price(costs, (2, 0, 1)), 5)
        self.assertEqual(order_price(costs, (0, 1, 2)), 6)

    def test_sizes_0_and_1(self):
        self.assertEqual(least_order(Costs(0)), (0, ()))
        self.assertEqual(subset_table(Costs(0)), {(): 0})
        self.assertEqual(order_price(Costs(0), ()), 0)
        self.assertEqual(least_order(Costs(1)), (0, (0,)))
        self.assertEqual(subset_table(Costs(1)), {(): 0, (0,): 0})
        self.assertEqual(order_price(Costs(1), (0,)), 0)

    def test_of_several_orders_the_least_tuple(self):
        for size in range(9):
            self.assertEqual(least_order(Costs(size)), (0, tuple(range(size))))
        costs = Costs(4)
        costs[0, 3] = 1
        self.assertEqual(least_order(costs), (0, (1, 2, 3, 0)))
        costs = Costs(8)
        costs[0, 7] = 1
        costs[1, 7] = 1
        self.assertEqual(least_order(costs), (0, (2, 3, 4, 5, 6, 7, 0, 1)))

    def test_against_all_orders(self):
        source = random.Random(21)
        for size in range(7):
            for top in (1, 2, 3, 10, 10 ** 9):
                for _ in range(4):
                    rows = random_rows(source, size, top)
                    costs = Costs.of(rows)
                    self.assertEqual(least_order(costs), least_by_search(rows, range(size)))
                    order = tuple(source.sample(range(size), size))
                    self.assertEqual(order_price(costs, order), price_of(rows, order))

    def test_size_8(self):
        source = random.Random(8)
        for top in (2, 10 ** 9):
            rows = random_rows(source, 8, top)
            price, order = least_order(Costs.of(rows))
            self.assertEqual(price, price_of(rows, order))
            self.assertEqual((price, order), least_by_search(rows, range(8)))

    def test_subset_tables(self):
        source = random.Random(22)
        for size in range(7):
            rows = random_rows(source, size, 9)
            table = subset_table(Costs.of(rows))
            wanted = {}
            for many in range(size + 1):
                for members in itertools.combinations(range(size), many):
                    wanted[members] = least_by_search(rows, members)[0]
            self.assertEqual(table, wanted)
            self.assertEqual(len(table), 2 ** size)
        self.assertEqual(len(subset_table(Costs(8))), 256)

    def test_checking_tables(self):
        source = random.Random(23)
        for size in (0, 1, 2, 3, 8):
            costs = Costs.of(random_rows(source, size, 10 ** 9))
            table = subset_table(costs)
            self.assertIs(check_table(costs, table), True)
            self.assertIs(check_table(costs, {key: table[key] for key in reversed(list(table))}), True)
            self.assertIs(check_table(costs, {}), False)
            for key in source.sample(list(table), min(12, len(table))):
                for changed in (table[key] + 1, table[key] - 1, -table[key] - 1, 10 ** 40):
                    self.assertIs(check_table(costs, {**table, key: changed}), False)
                self.assertIs(check_table(costs, {other: table[other] for other in table if other != key}), False)
                if len(key) > 1:
                    strange = {other: table[other] for other in table if other != key}
                    self.assertIs(check_table(costs, {**strange, key[::-1]: table[key]}), False)
            for key in ((size,), (-1,), (0, 0), (1, 0), (0, size), (10 ** 39,), (0, 1, 2, 3, 4, 5, 6, 7, 8)):
                self.assertIs(check_table(costs, {**table, key: 0}), False)

    def test_a_checked_table_is_not_changed(self):
        costs = Costs.of(EXAMPLE)
        table = subset_table(costs)
        check_table(costs, table)
        self.assertEqual(table, EXAMPLE_TABLE)
        table[()] = 9
        table.pop((0,))
        self.assertEqual(subset_table(costs), EXAMPLE_TABLE)
        self.assertIs(check_table(costs, table), False)

    def test_a_table_that_changes_between_two_calls(self):
        costs = Costs.of(EXAMPLE)
        table = subset_table(costs)
        costs[0, 1] = 9
        self.assertIs(check_table(costs, table), False)
        rows = [[0, 9, 5], [4, 0, 1], [2, 3, 0]]
        self.assertEqual(least_order(costs), least_by_search(rows, range(3)))
        costs[0, 1] = 0
        self.assertIs(check_table(costs, table), True)
        self.assertEqual(least_order(costs), (5, (2, 0, 1)))
        costs += costs
        self.assertEqual(least_order(costs), (10, (2, 0, 1)))
        self.assertEqual(costs.rows(), ((0, 0, 10), (8, 0, 2), (4, 6, 0)))


if __name__ == "__main__":
    unittest.main()

"""Points 25 to 28."""

import itertools
import unittest

from drawnlayers.arrange.costs import Costs
from drawnlayers.arrange.least import least_order, order_price
from drawnlayers.arrange.turning import closing_ring, turned_edges, turning_costs, turning_order
from drawnlayers.errors import NotTurned
from drawnlayers.graph.graphs import class_list
from helpers import class_of, graph_of, has_ring, random_graphs


def costs_by_words(graph):
    """The turning costs, straight from point 25."""
    classes = class_of(graph)
    size = len(class_list(graph))
    total = sum(edge[5] for edge in graph[3] if not edge[6] and edge[0] != edge[1])
    rows = [[0] * size for _ in range(size)]
    for edge in graph[3]:
        if edge[0] != edge[1]:
            rows[classes[edge[1]]][classes[edge[0]]] += 1 + total if edge[6] else edge[5]
    return tuple(tuple(row) for row in rows)


def is_ringless(graph, turned):
    classes = class_of(graph)
    arcs = []
    for number, edge in enumerate(graph[3]):
        if edge[0] != edge[1]:
            ends = (classes[edge[0]], classes[edge[1]])
            arcs.append(ends[::-1] if number in turned else ends)
    return not has_ring(len(classes), arcs)


class TurningTest(unittest.TestCase):
    def test_the_example(self):
        graph = graph_of("edge a b price=1", "edge b c a price=3")
        self.assertEqual(turning_costs(graph).rows(), ((0, 0, 3), (1, 0, 0), (0, 3, 0)))
        self.assertEqual(turning_order(graph), (1, 2, 0))
        self.assertEqual(turned_edges(graph), (0,))
        self.assertEqual(closing_ring(graph, 0), (0, 1, 2))

    def test_no_edges(self):
        graph = graph_of()
        self.assertEqual(turning_costs(graph).rows(), ())
        self.assertEqual((turning_order(graph), turned_edges(graph)), ((), ()))
        graph = graph_of("node a", "node b")
        self.assertEqual((turning_order(graph), turned_edges(graph)), ((0, 1), ()))

    def test_edges_that_go_onward_are_not_turned(self):
        graph = graph_of("edge c b a", "edge c a", "edge a d")
        self.assertEqual(turned_edges(graph), ())
        self.assertEqual(turning_order(graph), (0, 1, 2, 3))
        graph = graph_of("node a", "node b", "edge b a")
        self.assertEqual((turning_order(graph), turned_edges(graph)), ((1, 0), ()))

    def test_firm_edges(self):
        graph = graph_of("edge a b firm=yes price=1", "edge b a price=9", "edge b c a price=9")
        self.assertEqual(turning_costs(graph).rows(), ((0, 9, 9), (28, 0, 0), (0, 9, 0)))
        self.assertEqual(turned_edges(graph), (1, 3))
        self.assertEqual(turning_order(graph), (0, 1, 2))

    def test_loops_count_nowhere(self):
        graph = graph_of("edge a a price=9", "edge b b firm=yes price=9", "edge a b firm=yes", "edge b a price=2")
        self.assertEqual(turning_costs(graph).rows(), ((0, 2), (3, 0)))
        self.assertEqual(turned_edges(graph), (3,))

    def test_classes(self):
        graph = graph_of("edge a b price=2", "edge c d price=3", "same a d")
        self.assertEqual(turning_costs(graph).rows(), ((0, 0, 3), (2, 0, 0), (0, 0, 0)))
        self.assertEqual(turned_edges(graph), ())
        graph = graph_of("edge a b price=2", "edge c d price=3", "same a d", "same b c")
        self.assertEqual(turning_costs(graph).rows(), ((0, 3), (2, 0)))
        self.assertEqual((turning_order(graph), turned_edges(graph)), ((1, 0), (0,)))
        self.assertEqual(closing_ring(graph, 0), (0, 1))

    def test_equal_prices(self):
        graph = graph_of("edge a b a")
        self.assertEqual((turning_order(graph), turned_edges(graph)), ((0, 1), (1,)))
        graph = graph_of("edge a b c d a")
        self.assertEqual((turning_order(graph), turned_edges(graph)), ((0, 1, 2, 3), (3,)))

    def test_several_edges_between_the_same_items(self):
        graph = graph_of("edge a b", "edge a b", "edge b a price=2", "edge b a firm=no")
        self.assertEqual(turned_edges(graph), (0, 1))

    def test_costs_are_new_each_time(self):
        graph = graph_of("edge a b a")
        costs = turning_costs(graph)
        self.assertIsInstance(costs, Costs)
        costs[0, 1] = 99
        self.assertEqual(turning_costs(graph).rows(), ((0, 1), (1, 0)))
        self.assertEqual(turning_order(graph), (0, 1))

    def test_random_graphs(self):
        turned_in_all = 0
        for graph in random_graphs(150, seed=25):
            costs = turning_costs(graph)
            self.assertEqual(costs.rows(), costs_by_words(graph))
            order = turning_order(graph)
            self.assertEqual(order, least_order(costs)[1])
            classes = class_of(graph)
            backward = [number for number, edge in enumerate(graph[3])
                        if edge[0] != edge[1] and order.index(classes[edge[1]]) < order.index(classes[edge[0]])]
            turned = turned_edges(graph)
            self.assertEqual(turned, tuple(backward))
            self.assertFalse(any(graph[3][number][6] for number in turned))
            self.assertTrue(is_ringless(graph, turned))
            self.assertEqual(sum(graph[3][number][5] for number in turned), order_price(costs, order))
            turned_in_all += len(turned)
        self.assertGreater(turned_in_all, 60)

    def test_no_set_of_edges_has_a_lesser_price(self):
        for graph in random_graphs(60, seed=26):
            loose = [number for number, edge in enumerate(graph[3]) if not edge[6] and edge[0] != edge[1]]
            if len(loose) > 9:
                continue
            price = sum(graph[3][number][5] for number in turned_edges(graph))
            for many in range(len(loose) + 1):
                for chosen in itertools.combinations(loose, many):
                    if sum(graph[3][number][5] for number in chosen) < price:
                        self.assertFalse(is_ringless(graph, chosen))

    def assert_closing(self, graph, number, ring):
        self.assertIsInstance(ring, tuple)
        turned = turned_edges(graph)
        classes = class_of(graph)
        self.assertEqual(ring[0], number)
        for other in ring[1:]:
            self.assertNotIn(other, turned)
            self.assertNotEqual(graph[3][other][0], graph[3][other][1])
        begins = [classes[graph[3][other][0]] for other in ring]
        ends = [classes[graph[3][other][1]] for other in ring]
        self.assertEqual(ends, begins[1:] + begins[:1])
        self.assertEqual(len(set(begins)), len(begins))

    def test_closing_rings(self):
        for graph in random_graphs(150, seed=28):
            turned = turned_edges(graph)
            for number in range(len(graph[3])):
                if number in turned:
                    self.assert_closing(graph, number, closing_ring(graph, number))
                else:
                    with self.assertRaises(NotTurned) as caught:
                        closing_ring(graph, number)
                    self.assertEqual(caught.exception.edge, number)

    def test_not_turned(self):
        graph = graph_of("edge a b a", "edge a a")
        for number in (0, 2):
            with self.assertRaises(NotTurned) as caught:
                closing_ring(graph, number)
            self.assertEqual(caught.exception.edge, number)
        self.assertEqual(closing_ring(graph, 1), (1, 0))

    def test_only_what_point_85_names_matters(self):
        first = graph_of("edge a b price=1 label=x", "edge b c a price=3")
        second = graph_of("graph down=9 across=1", "node a width=9 label=q", "node b height=4", "lot c width=3", "edge d d",
                          "end", "edge a b price=1 label=other", "edge b c a price=3")
        self.assertEqual(turned_edges(first), turned_edges(second))


if __name__ == "__main__":
    unittest.main()

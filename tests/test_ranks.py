"""Points 39 to 41, and point 27."""

import unittest

from drawnlayers.arrange.turning import turned_edges
from drawnlayers.heights.best import best_heights
from drawnlayers.heights.ranks import rank_links, ranks, upper_and_lower
from drawnlayers.heights.system import cost, keeps
from drawnlayers.heights.trees import link_system, tree_heights
from helpers import class_of, graph_of, random_graphs


class RanksTest(unittest.TestCase):
    def test_the_example(self):
        graph = graph_of("edge a b c", "edge a c weight=5", "edge d c")
        self.assertEqual(rank_links(graph), ((0, 1, 1, 1), (1, 2, 1, 1), (0, 2, 1, 5), (3, 2, 1, 1)))
        self.assertEqual(ranks(graph), (0, 1, 2, 1))
        self.assertEqual(tree_heights(4, rank_links(graph)), ((0, 1, 2, 1), (0, 1, 3), (6, 6, 1)))

    def test_no_items_and_no_edges(self):
        self.assertEqual((rank_links(graph_of()), ranks(graph_of())), ((), ()))
        graph = graph_of("node a", "node b", "edge a a")
        self.assertEqual((rank_links(graph), ranks(graph)), ((), (0, 0)))

    def test_labels_need_a_rank_between(self):
        graph = graph_of("edge a b label=x", "edge a b label=", "edge b c span=1 label=y", "edge c d span=2 label=z",
                         "edge d e span=4 label=q", "edge e f span=3")
        self.assertEqual([link[2] for link in rank_links(graph)], [2, 1, 2, 2, 4, 3])
        self.assertEqual(ranks(graph), (0, 2, 4, 6, 10, 13))

    def test_turned_edges_go_from_their_head(self):
        graph = graph_of("edge a b price=1 weight=3 span=2", "edge b c a price=3 weight=2")
        self.assertEqual(turned_edges(graph), (0,))
        self.assertEqual(rank_links(graph), ((1, 0, 2, 3), (1, 2, 1, 2), (2, 0, 1, 2)))
        self.assertEqual(ranks(graph), (2, 0, 1))
        self.assertEqual(upper_and_lower(graph[3][0], True), (1, 0))
        self.assertEqual(upper_and_lower(graph[3][0], False), (0, 1))

    def test_loops_give_no_links(self):
        graph = graph_of("edge a a weight=9", "edge a b", "edge b b span=4")
        self.assertEqual(rank_links(graph), ((0, 1, 1, 1),))
        self.assertEqual(ranks(graph), (0, 1))

    def test_classes(self):
        graph = graph_of("edge a b c", "edge d e", "node f", "same c d", "same f b")
        self.assertEqual(rank_links(graph), ((0, 1, 1, 1), (1, 2, 1, 1), (2, 3, 1, 1)))
        self.assertEqual(ranks(graph), (0, 1, 2, 2, 3, 1))

    def test_weights_of_0(self):
        graph = graph_of("edge a b span=3", "edge c b weight=0")
        self.assertEqual(rank_links(graph), ((0, 1, 3, 1), (2, 1, 1, 0)))
        self.assertEqual(ranks(graph), (0, 3, 0))
        graph = graph_of("edge a b span=3", "edge c b weight=1")
        self.assertEqual(ranks(graph), (0, 3, 2))

    def test_several_edges_between_the_same_items(self):
        graph = graph_of("edge a b", "edge a b span=4 weight=0", "edge a b weight=9")
        self.assertEqual(ranks(graph), (0, 4))

    def test_random_graphs(self):
        for graph in random_graphs(150, seed=39):
            classes = class_of(graph)
            turned = turned_edges(graph)
            links = []
            for number, edge in enumerate(graph[3]):
                if edge[0] != edge[1]:
                    upper, lower = (edge[1], edge[0]) if number in turned else (edge[0], edge[1])
                    gap = 2 if edge[4] == 1 and edge[2] else edge[4]
                    links.append((classes[upper], classes[lower], gap, edge[3]))
            self.assertEqual(rank_links(graph), tuple(links))
            found = ranks(graph)
            count = len(set(classes.values()))
            heights = best_heights(link_system(count, tuple(links)))
            self.assertEqual(found, tuple(heights[classes[item]] for item in range(len(graph[1]))))
            for item in classes:
                for other in classes:
                    if classes[item] == classes[other]:
                        self.assertEqual(found[item], found[other])

    def test_every_rank_is_taken_or_passed(self):
        for graph in random_graphs(150, seed=40):
            found = ranks(graph)
            for rank in range(max(found, default=0)):
                passed = any(min(found[edge[0]], found[edge[1]]) < rank < max(found[edge[0]], found[edge[1]])
                             for edge in graph[3])
                self.assertTrue(rank in found or passed)

    def test_the_lengths_cost_the_least(self):
        for graph in random_graphs(60, seed=41):
            count = len(set(class_of(graph).values()))
            system = link_system(count, rank_links(graph))
            heights = tree_heights(count, rank_links(graph))[0]
            self.assertTrue(keeps(system, heights))
            self.assertEqual(cost(system, heights), cost(system, best_heights(system)))

    def test_only_what_point_85_names_matters(self):
        first = graph_of("edge a b label=x", "edge b c a price=3")
        second = graph_of("graph down=9", "node a width=9 label=q", "lot b", "edge d e", "end", "lot c height=3", "end",
                          "edge a b label=other", "edge b c a price=3")
        self.assertEqual(ranks(first), ranks(second))


if __name__ == "__main__":
    unittest.main()

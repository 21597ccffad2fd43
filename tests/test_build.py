"""Point 12, with the example of point 18."""

import unittest

from drawnlayers.errors import DrawError
from drawnlayers.graph.build import build_graph
from drawnlayers.graph.graphs import graph_named, is_sound
from drawnlayers.text.texts import read_text
from helpers import graph_of, random_graphs


def node(name, label="$", width=1, height=1, inner=None):
    return (name, label, width, height, inner)


def edge(tail, head, label="", weight=1, span=1, price=1, firm=False):
    return (tail, head, label, weight, span, price, firm)


def sizes(graph):
    return [(item[0], item[2], item[3]) for item in graph[1]]


class BuildTest(unittest.TestCase):
    def test_no_statements(self):
        self.assertEqual(build_graph(()), ((2, 4, 2), (), (), ()))

    def test_one_edge(self):
        wanted = ((2, 4, 2), (node("a"), node("b")), (), (edge(0, 1),))
        self.assertEqual(build_graph((("edge", ("a", "b"), ()),)), wanted)

    def test_the_example(self):
        graph = graph_of("nodes width=5", "group", "nodes width=7", "node b", "end", "edge a b c weight=2")
        self.assertEqual(graph, (
            (2, 4, 2), (("b", "$", 7, 1, None), ("a", "$", 5, 1, None), ("c", "$", 5, 1, None)), (),
            ((1, 0, "", 2, 1, 1, False), (0, 2, "", 2, 1, 1, False))))

    def test_nodes_with_options(self):
        graph = graph_of("node a width=3 label=x", "node b", "node c height=20 width=30 label=")
        self.assertEqual(graph[1], (node("a", "x", 3), node("b"), node("c", "", 30, 20)))

    def test_repeated_node(self):
        graph = graph_of("node a width=3 label=x", "nodes height=9", "node a height=2", "node b", "node a width=4")
        self.assertEqual(graph[1], (node("a", "x", 4, 2), node("b", height=9)))
        self.assertEqual(graph_of("node a width=3", "node a")[1], (node("a", width=3),))

    def test_node_changes_a_lot_that_is_closed(self):
        graph = graph_of("lot a width=3", "node b", "end", "node a height=5 label=q")
        self.assertEqual(graph[1], (node("a", "q", 3, 5, ((2, 4, 2), (node("b"),), (), ())),))

    def test_edges_add_nodes_once_from_the_left(self):
        graph = graph_of("node c", "nodes width=2", "edge b a b c d a")
        self.assertEqual(sizes(graph), [("c", 1, 1), ("b", 2, 1), ("a", 2, 1), ("d", 2, 1)])
        self.assertEqual([row[:2] for row in graph[3]], [(1, 2), (2, 1), (1, 0), (0, 3), (3, 2)])

    def test_chains_with_options(self):
        graph = graph_of("edge a b c label=x weight=0 span=4 price=9 firm=yes", "edge a a", "edge a b")
        self.assertEqual(graph[3], (edge(0, 1, "x", 0, 4, 9, True), edge(1, 2, "x", 0, 4, 9, True), edge(0, 0), edge(0, 1)))

    def test_loops_in_chains(self):
        graph = graph_of("edge a a a b b")
        self.assertEqual([row[:2] for row in graph[3]], [(0, 0), (0, 0), (0, 1), (1, 1)])

    def test_thirteen_names(self):
        graph = graph_of("edge a b c d e f g h a b c d e")
        self.assertEqual(len(graph[1]), 8)
        self.assertEqual(len(graph[3]), 12)

    def test_defaults_hold_from_here_on(self):
        graph = graph_of("node a", "edge a b", "nodes width=5 label=x", "edges weight=7 firm=yes", "node c", "edge a c d",
                         "nodes height=2", "edges firm=no label=q", "edge d e", "node f label=$")
        self.assertEqual(graph[1], (node("a"), node("b"), node("c", "x", 5), node("d", "x", 5), node("e", "x", 5, 2),
                                    node("f", "$", 5, 2)))
        self.assertEqual(graph[3], (edge(0, 1), edge(0, 2, "", 7, firm=True), edge(2, 3, "", 7, firm=True),
                                    edge(3, 4, "q", 7)))

    def test_defaults_in_and_behind_groups(self):
        graph = graph_of("nodes width=5", "group", "nodes height=3", "node a", "group", "nodes width=6", "edges span=2",
                         "edge b c", "end", "edge c d", "end", "edge d e")
        self.assertEqual(sizes(graph), [("a", 5, 3), ("b", 6, 3), ("c", 6, 3), ("d", 5, 3), ("e", 5, 1)])
        self.assertEqual([row[4] for row in graph[3]], [2, 1, 1])

    def test_defaults_in_and_behind_lots(self):
        graph = graph_of("nodes width=5", "edges price=4", "lot a", "nodes height=3", "edge b c price=5", "edge b c",
                         "edges price=6", "edge c b", "end", "edge d e")
        inner = graph_named(graph, "a")
        self.assertEqual(sizes(graph), [("a", 5, 1), ("d", 5, 1), ("e", 5, 1)])
        self.assertEqual(sizes(inner), [("b", 5, 3), ("c", 5, 3)])
        self.assertEqual([row[5] for row in inner[3]], [5, 4, 6])
        self.assertEqual([row[5] for row in graph[3]], [4])

    def test_options_of_a_lot_are_its_own_values_alone(self):
        graph = graph_of("lot a width=9 height=8 label=x", "node b", "end")
        self.assertEqual(graph[1][0][:4], ("a", "x", 9, 8))
        self.assertEqual(graph_named(graph, "a")[1], (node("b"),))

    def test_settings_are_handed_down_once(self):
        graph = graph_of("graph down=7", "lot a", "graph across=3", "lot b", "graph margin=9 down=2", "end", "graph down=8",
                         "lot c", "end", "end", "graph down=9", "lot d", "end", "graph margin=5")
        self.assertEqual(graph[0], (2, 9, 5))
        self.assertEqual(graph_named(graph, "a")[0], (3, 8, 2))
        self.assertEqual(graph_named(graph, "b")[0], (3, 2, 9))
        self.assertEqual(graph_named(graph, "c")[0], (3, 8, 2))
        self.assertEqual(graph_named(graph, "d")[0], (2, 9, 2))

    def test_groups_do_not_end_settings_or_items(self):
        graph = graph_of("group", "node a", "lot b", "graph down=5", "group", "node c", "end", "graph down=6", "end", "end",
                         "graph down=9")
        self.assertEqual(graph[0], (2, 9, 2))
        self.assertEqual(graph_named(graph, "b"), ((2, 6, 2), (node("c"),), (), ()))

    def test_same(self):
        graph = graph_of("edge a b", "edge c d", "edge e f", "same a c", "same d b", "same e a")
        self.assertEqual(graph[2], ((0, 2, 4), (1, 3)))

    def test_same_joins_classes(self):
        graph = graph_of("edge a b c d", "node e", "node f", "same f b", "same e d", "same e f")
        self.assertEqual(graph[2], ((1, 3, 4, 5),))
        graph = graph_of("node a", "node b", "node c", "node d", "node e", "same d e", "same b c", "same c d")
        self.assertEqual(graph[2], ((1, 2, 3, 4),))
        self.assertEqual(graph_of("node a", "node b", "same b a", "same a b")[2], ((0, 1),))

    def test_same_within_a_lot(self):
        graph = graph_of("node a", "lot b", "node c", "node d", "same d c", "end", "same a b")
        self.assertEqual(graph[2], ((0, 1),))
        self.assertEqual(graph_named(graph, "b")[2], ((0, 1),))

    def test_new_items_after_same_are_in_no_class(self):
        graph = graph_of("node b", "node a", "same a b", "edge a c")
        self.assertEqual(graph[2], ((0, 1),))

    def test_edges_to_lots(self):
        graph = graph_of("lot a", "edge x y", "end", "edge a b", "edge a a")
        self.assertEqual([row[:2] for row in graph[3]], [(0, 1), (0, 0)])

    def test_names_spelled_like_words(self):
        graph = graph_of("node node", "lot lot", "edge end group", "end", "edge node lot same")
        self.assertEqual([item[0] for item in graph[1]], ["node", "lot", "same"])

    def test_more_than_eighty_statements(self):
        statements = (("group",), ("end",)) * 50
        self.assertEqual(build_graph(statements), ((2, 4, 2), (), (), ()))

    def test_built_graphs_are_sound_and_equal_each_time(self):
        for graph in random_graphs(80, seed=5):
            self.assertTrue(is_sound(graph))
        statements = read_text("nodes width=5\nlot a\nedge b c\nend\nedge a d label=x")
        self.assertEqual(build_graph(statements), build_graph(statements))
        with self.assertRaises(DrawError):
            build_graph(statements + (("end",),))
        self.assertEqual(build_graph(statements), build_graph(statements))


if __name__ == "__main__":
    unittest.main()

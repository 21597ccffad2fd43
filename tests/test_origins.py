"""Point 14, with the example of point 18."""

import unittest

from drawnlayers.errors import BadPlace, FirmRing, NameTaken, Unclosed
from drawnlayers.graph.build import build_graph
from drawnlayers.graph.graphs import walk_graphs
from drawnlayers.graph.origins import origins
from drawnlayers.text.texts import read_text
from drawnlayers.text.words import EDGE_KEYS, GRAPH_KEYS, ITEM_KEYS


def origins_of(*lines):
    return origins(read_text("\n".join(lines)))


class OriginsTest(unittest.TestCase):
    def test_the_example(self):
        found = origins_of("nodes width=5", "group", "nodes width=7", "node b", "end", "edge a b c weight=2")
        self.assertEqual(found[("item", "b", "width")], 2)
        self.assertEqual(found[("item", "a", "width")], 0)
        self.assertEqual(found[("edge", "", 1, "weight")], 5)
        self.assertIsNone(found[("edge", "", 1, "span")])

    def test_no_statements(self):
        self.assertEqual(origins(()), {("graph", "", key): None for key in GRAPH_KEYS})

    def test_every_key_is_there(self):
        lines = ("lot x", "lot y", "edge a b a", "end", "node c", "end", "lot z", "end", "edge x d", "edge d d")
        statements = read_text("\n".join(lines))
        wanted = set()
        for name, graph in walk_graphs(build_graph(statements)):
            wanted.update(("graph", name, key) for key in GRAPH_KEYS)
            wanted.update(("item", item[0], key) for item in graph[1] for key in ITEM_KEYS)
            wanted.update(("edge", name, number, key) for number in range(len(graph[3])) for key in EDGE_KEYS)
        found = origins(statements)
        self.assertEqual(set(found), wanted)
        self.assertEqual(set(found.values()), {None})

    def test_options_and_options_that_repeat_the_value(self):
        found = origins_of("node a width=1", "edge a b weight=1 firm=no", "node b height=4", "node b height=4 width=2",
                           "graph down=4")
        self.assertEqual([found[("item", "a", key)] for key in ITEM_KEYS], [None, 0, None])
        self.assertEqual([found[("item", "b", key)] for key in ITEM_KEYS], [None, 3, 3])
        self.assertEqual([found[("edge", "", 0, key)] for key in EDGE_KEYS], [None, 1, None, None, 1])
        self.assertEqual([found[("graph", "", key)] for key in GRAPH_KEYS], [None, 4, None])

    def test_a_node_without_options_gives_nothing(self):
        found = origins_of("node a width=2", "nodes width=3", "node a")
        self.assertEqual(found[("item", "a", "width")], 0)

    def test_defaults_of_groups_and_lots(self):
        found = origins_of("edges span=2", "nodes height=2", "group", "nodes width=3", "edge a b", "lot c", "edges span=3",
                           "edge d e", "nodes height=9", "node f", "end", "edge g h price=2", "end", "edge i j")
        self.assertEqual([found[("item", "a", key)] for key in ITEM_KEYS], [None, 3, 1])
        self.assertEqual([found[("item", "c", key)] for key in ITEM_KEYS], [None, 3, 1])
        self.assertEqual([found[("item", "e", key)] for key in ITEM_KEYS], [None, 3, 1])
        self.assertEqual([found[("item", "f", key)] for key in ITEM_KEYS], [None, 3, 8])
        self.assertEqual([found[("item", "g", key)] for key in ITEM_KEYS], [None, 3, 1])
        self.assertEqual([found[("item", "j", key)] for key in ITEM_KEYS], [None, None, 1])
        self.assertEqual(found[("edge", "", 0, "span")], 0)
        self.assertEqual(found[("edge", "c", 0, "span")], 6)
        self.assertEqual(found[("edge", "", 1, "span")], 0)
        self.assertEqual(found[("edge", "", 1, "price")], 11)
        self.assertEqual(found[("edge", "", 2, "price")], None)

    def test_a_lot_takes_defaults_from_outside(self):
        found = origins_of("nodes width=3", "lot a height=2", "nodes width=4", "end")
        self.assertEqual([found[("item", "a", key)] for key in ITEM_KEYS], [None, 0, 1])

    def test_settings_that_are_handed_down(self):
        found = origins_of("graph down=7", "lot a", "lot b", "end", "graph across=2", "lot c", "end", "end", "graph down=8",
                           "lot d", "end")
        self.assertEqual([found[("graph", "", key)] for key in GRAPH_KEYS], [None, 8, None])
        self.assertEqual([found[("graph", "a", key)] for key in GRAPH_KEYS], [4, 0, None])
        self.assertEqual([found[("graph", "b", key)] for key in GRAPH_KEYS], [None, 0, None])
        self.assertEqual([found[("graph", "c", key)] for key in GRAPH_KEYS], [4, 0, None])
        self.assertEqual([found[("graph", "d", key)] for key in GRAPH_KEYS], [None, 8, None])

    def test_errors_of_building(self):
        for kind, line, lines in (
            (BadPlace, 0, ("end",)),
            (NameTaken, 1, ("node a", "lot a", "end")),
            (FirmRing, 0, ("edge a b a firm=yes",)),
            (Unclosed, 1, ("node a", "group")),
        ):
            with self.assertRaises(kind) as caught:
                origins_of(*lines)
            self.assertEqual(caught.exception.line, line)

    def test_a_changed_dict_changes_nothing_later(self):
        statements = read_text("edge a b weight=3")
        found = origins(statements)
        again = dict(found)
        found.clear()
        self.assertEqual(origins(statements), again)


if __name__ == "__main__":
    unittest.main()

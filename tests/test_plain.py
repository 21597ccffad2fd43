"""Point 16, with the example of point 18."""

import unittest

from drawnlayers.graph.build import build_graph
from drawnlayers.graph.graphs import is_sound, walk_graphs
from drawnlayers.graph.plain import plain_statements, plain_text
from drawnlayers.text.texts import read_text, write_text
from helpers import graph_of, random_graphs, random_texts


class PlainTest(unittest.TestCase):
    def assert_plain(self, lines, plain):
        graph = graph_of(*lines)
        self.assertEqual(plain_text(graph).split("\n") if plain else plain_text(graph), plain or "")
        self.assert_round(graph)

    def assert_round(self, graph):
        statements = plain_statements(graph)
        self.assertIsInstance(statements, tuple)
        self.assertEqual(build_graph(statements), graph)
        self.assertEqual(plain_text(graph), write_text(statements))
        self.assertEqual(read_text(plain_text(graph)), statements)
        self.assertLessEqual(len(statements), 80)

    def test_the_example(self):
        self.assert_plain(
            ["nodes width=5", "group", "nodes width=7", "node b", "end", "edge a b c weight=2"],
            ["node b width=7", "node a width=5", "node c width=5", "edge a b weight=2", "edge b c weight=2"])

    def test_the_empty_graph(self):
        self.assertEqual(plain_statements(((2, 4, 2), (), (), ())), ())
        self.assertEqual(plain_text(((2, 4, 2), (), (), ())), "")
        self.assertEqual(plain_statements(((9, 4, 2), (), (), ())), (("graph", (("across", 9),)),))

    def test_the_order_of_statements_and_options(self):
        self.assert_plain(
            ["edge c b firm=yes price=2 span=3 weight=4 label=x", "node b height=2 width=3 label=q",
             "node a", "node d", "node e", "same e d", "same a c", "graph margin=1 across=1 down=2", "edge a a weight=0"],
            ["graph across=1 down=2 margin=1", "node c", "node b label=q width=3 height=2", "node a", "node d", "node e",
             "same c a", "same d e", "edge c b label=x weight=4 span=3 price=2 firm=yes", "edge a a weight=0"])

    def test_the_form_of_the_statements(self):
        graph = graph_of("graph down=9", "node a label=", "lot b width=2", "node c", "end", "same a b", "edge a x firm=yes")
        self.assertEqual(plain_statements(graph), (
            ("graph", (("down", 9),)),
            ("node", "a", (("label", ""),)),
            ("lot", "b", (("width", 2),)),
            ("node", "c", ()),
            ("end",),
            ("node", "x", ()),
            ("same", ("a", "b")),
            ("edge", ("a", "x"), (("firm", True),)),
        ))

    def test_settings_that_are_shared_or_changed_back(self):
        self.assert_plain(
            ["graph across=3 margin=5", "lot a", "graph across=2", "lot b", "graph margin=2 down=7", "lot c", "end", "end",
             "end", "lot d", "end"],
            ["graph across=3 margin=5", "lot a", "graph across=2", "lot b", "graph down=7 margin=2", "lot c", "end", "end",
             "end", "lot d", "end"])

    def test_settings_of_the_outer_graph_that_came_later(self):
        self.assert_plain(
            ["lot a", "end", "graph across=9", "lot b", "end"],
            ["graph across=9", "lot a", "graph across=2", "end", "lot b", "end"])

    def test_a_lot_is_plain_by_itself(self):
        graph = graph_of("graph across=9", "lot a", "node b", "end")
        inner = graph[1][0][4]
        self.assertEqual(plain_text(inner), "graph across=9\nnode b")
        self.assertEqual(plain_text(graph), "graph across=9\nlot a\nnode b\nend")

    def test_defaults_and_groups_are_gone(self):
        self.assert_plain(
            ["group", "edges weight=5 firm=yes", "nodes label=", "edge a b", "end", "nodes width=1", "node c"],
            ["node a label=", "node b label=", "node c", "edge a b weight=5 firm=yes"])

    def test_each_value_at_both_ends_of_its_range(self):
        ends = {"node a": ("label=", "label=$$$$$$", "label=$", "width=1", "width=30", "height=1", "height=20"),
                "edge a b": ("label=", "label=_.9!zZ", "weight=0", "weight=1", "weight=9", "span=1", "span=4", "price=1",
                             "price=9", "firm=no", "firm=yes"),
                "graph": ("across=1", "across=2", "across=9", "down=2", "down=4", "down=20", "margin=1", "margin=2", "margin=9")}
        initial = ("label=$", "width=1", "height=1", "weight=1", "span=1", "price=1", "firm=no", "across=2", "down=4", "margin=2")
        for head, options in ends.items():
            for option in options:
                line = head + " " + option
                graph = graph_of(line)
                self.assert_round(graph)
                lines = plain_text(graph).split("\n")
                is_initial = option in initial or (head == "edge a b" and option == "label=")
                self.assertEqual(line in lines, not is_initial, line)
                self.assertEqual(any("=" in one for one in lines), not is_initial, line)

    def test_loops_and_repeated_edges(self):
        self.assert_plain(["edge a a b b firm=yes", "edge a b firm=yes", "edge a b"],
                          ["node a", "node b", "edge a a firm=yes", "edge a b firm=yes", "edge b b firm=yes",
                           "edge a b firm=yes", "edge a b"])

    def test_names_that_are_words_of_the_language(self):
        self.assert_plain(["edge end node", "lot group", "end", "same group end"],
                          ["node end", "node node", "lot group", "end", "same end group", "edge end node"])

    def test_lots_in_lots_keep_their_places_between_nodes(self):
        self.assert_plain(
            ["node z", "lot a width=9", "edge c d", "lot e", "lot f label=", "node g", "end", "end", "same c e", "end", "node y"],
            ["node z", "lot a width=9", "node c", "node d", "lot e", "lot f label=", "node g", "end", "end", "same c e",
             "edge c d", "end", "node y"])

    def test_the_largest_graph(self):
        lines = ["graph across=9"]
        names = iter("abcdefghijklmnopqrst")
        for at in range(6):
            lines += [f"lot {next(names)} width=2", f"graph down={at + 5}"]
            pair = [next(names), next(names)]
            lines += ["node " + pair[0], "node " + pair[1], "same " + " ".join(pair)]
            lines += [f"edge {pair[0]} {pair[0]}"] * 4 + ["end"]
        lines += ["node s", "node t", "same s t"] + ["edge s s"] * 6
        graph = graph_of(*lines)
        self.assertTrue(is_sound(graph))
        self.assertEqual(sum(len(one[1]) for _, one in walk_graphs(graph)), 20)
        self.assertEqual(sum(len(one[3]) for _, one in walk_graphs(graph)), 30)
        self.assertEqual(len(plain_statements(graph)), 20 + 6 + 7 + 7 + 30)
        self.assertEqual(plain_text(graph).split("\n"), lines)
        self.assert_round(graph)

    def test_random_texts(self):
        depths = set()
        for text in random_texts(300, seed=16):
            graph = build_graph(read_text(text))
            self.assert_round(graph)
            depths.add(len(list(walk_graphs(graph))))
        self.assertGreater(len(depths), 3)
        for graph in random_graphs(100, seed=16):
            self.assert_round(graph)

    def test_every_option_that_is_written_makes_a_difference(self):
        for text in random_texts(60, seed=17):
            graph = build_graph(read_text(text))
            statements = plain_statements(graph)
            for at, statement in enumerate(statements):
                if statement[0] in ("end", "same"):
                    continue
                options = statement[-1]
                for option in options:
                    left = tuple(other for other in options if other != option)
                    fewer = (*statement[:-1], left)
                    if statement[0] == "graph" and not left:
                        changed = statements[:at] + statements[at + 1:]
                    else:
                        changed = statements[:at] + (fewer,) + statements[at + 1:]
                    self.assertNotEqual(build_graph(changed), graph)

    def test_equal_plain_texts_just_for_equal_graphs(self):
        found = {}
        for text in random_texts(150, seed=18):
            graph = build_graph(read_text(text))
            self.assertEqual(found.setdefault(plain_text(graph), graph), graph)


if __name__ == "__main__":
    unittest.main()

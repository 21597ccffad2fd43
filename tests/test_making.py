"""Points 7 and 9: statements made by calls."""

import unittest

from drawnlayers.errors import BadOption
from drawnlayers.text.lines import read_line, write_line
from drawnlayers.text.making import edge_line, edges_line, graph_line, lot_line, node_line, nodes_line, same_line


class MakingTest(unittest.TestCase):
    def assert_bad(self, key, make, *names, **options):
        with self.assertRaises(BadOption) as caught:
            make(*names, **options)
        self.assertEqual(caught.exception.key, key)

    def test_each_call(self):
        self.assertEqual(node_line("a"), ("node", "a", ()))
        self.assertEqual(node_line("a", width=3, label="$x"), ("node", "a", (("width", 3), ("label", "$x"))))
        self.assertEqual(lot_line("b", height=20), ("lot", "b", (("height", 20),)))
        self.assertEqual(edge_line("a", "b"), ("edge", ("a", "b"), ()))
        self.assertEqual(edge_line("a", "a", "b", firm=True, weight=0),
                         ("edge", ("a", "a", "b"), (("firm", True), ("weight", 0))))
        self.assertEqual(nodes_line(label=""), ("nodes", (("label", ""),)))
        self.assertEqual(edges_line(span=4, price=9), ("edges", (("span", 4), ("price", 9))))
        self.assertEqual(graph_line(margin=1, across=9, down=20), ("graph", (("margin", 1), ("across", 9), ("down", 20))))
        self.assertEqual(same_line("a", "b", "c"), ("same", ("a", "b", "c")))

    def test_the_order_of_the_call_is_kept(self):
        self.assertEqual(edge_line("a", "b", price=2, label="x", firm=False, span=1)[2],
                         (("price", 2), ("label", "x"), ("firm", False), ("span", 1)))

    def test_they_can_be_written(self):
        for statement in (node_line("a", width=30), edge_line("a", "b", firm=True), same_line("a", "b"), graph_line(down=2)):
            self.assertEqual(read_line(write_line(statement)), statement)

    def test_keys_of_another_kind(self):
        self.assert_bad("weight", node_line, "a", weight=1)
        self.assert_bad("across", lot_line, "a", across=1)
        self.assert_bad("width", edge_line, "a", "b", width=1)
        self.assert_bad("firm", nodes_line, firm=True)
        self.assert_bad("margin", edges_line, margin=1)
        self.assert_bad("label", graph_line, label="")
        self.assert_bad("color", graph_line, color=1)
        self.assert_bad("names", edge_line, "a", "b", names=1)
        self.assert_bad("options", node_line, "a", options=1)
        self.assert_bad("kind", node_line, "a", kind="x")

    def test_values_that_do_not_fit(self):
        self.assert_bad("width", node_line, "a", width=0)
        self.assert_bad("width", nodes_line, width=31)
        self.assert_bad("width", node_line, "a", width=True)
        self.assert_bad("width", node_line, "a", width="3")
        self.assert_bad("label", node_line, "a", label="abcdefg")
        self.assert_bad("label", node_line, "a", label=1)
        self.assert_bad("label", edge_line, "a", "b", label="$")
        self.assert_bad("label", edges_line, label="a$")
        self.assert_bad("firm", edge_line, "a", "b", firm="yes")
        self.assert_bad("firm", edge_line, "a", "b", firm=1)
        self.assert_bad("firm", edges_line, firm=0)
        self.assert_bad("weight", edges_line, weight=10)
        self.assert_bad("down", graph_line, down=1)

    def test_the_first_of_several_wrong_keys(self):
        self.assert_bad("height", node_line, "a", width=3, height=0, color=1, label=7)
        self.assert_bad("color", node_line, "a", width=3, color=1, height=0)
        self.assert_bad("span", edge_line, "a", "b", weight=9, span=0, width=1)
        self.assert_bad("width", edge_line, "a", "b", width=1, span=0)


if __name__ == "__main__":
    unittest.main()

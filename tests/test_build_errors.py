"""Point 13."""

import unittest

from drawnlayers.errors import (
    BadPlace, DrawError, FirmRing, FlatEdge, LoopLabel, NameTaken, NoName, TooLarge, Unclosed,
)
from drawnlayers.graph.build import build_graph
from drawnlayers.text.texts import read_text
from helpers import graph_of

EIGHT = ("node a", "node b", "node c", "node d", "node e", "node f", "node g", "node h")


class BuildErrorsTest(unittest.TestCase):
    def assert_raises(self, kind, line, *lines):
        with self.assertRaises(DrawError) as caught:
            build_graph(read_text("\n".join(lines)))
        self.assertIs(type(caught.exception), kind)
        self.assertEqual(caught.exception.line, line)

    def test_an_end_while_nothing_is_open(self):
        self.assert_raises(BadPlace, 0, "end")
        self.assert_raises(BadPlace, 2, "group", "end", "end")
        self.assert_raises(BadPlace, 2, "lot a", "end", "end", "node a", "end")

    def test_a_graph_statement_in_a_group(self):
        self.assert_raises(BadPlace, 1, "group", "graph down=3", "end")
        self.assert_raises(BadPlace, 2, "lot a", "group", "graph down=3", "end", "end")
        graph_of("group", "lot a", "graph down=3", "end", "end")
        graph_of("group", "end", "graph down=3")
        self.assert_raises(BadPlace, 4, "group", "lot a", "graph down=3", "end", "graph down=3")

    def test_names_of_other_graphs(self):
        self.assert_raises(NameTaken, 2, "node a", "lot b", "node a", "end")
        self.assert_raises(NameTaken, 1, "lot b", "node b", "end")
        self.assert_raises(NameTaken, 1, "lot b", "edge c b", "end")
        self.assert_raises(NameTaken, 3, "lot b", "node c", "end", "edge b c")
        self.assert_raises(NameTaken, 4, "lot b", "node c", "end", "lot d", "edge e c", "end")
        self.assert_raises(NameTaken, 1, "lot b", "lot b", "end", "end")
        self.assert_raises(NameTaken, 3, "lot b", "node c", "end", "node c width=2")

    def test_a_lot_takes_no_name_of_its_own_graph(self):
        self.assert_raises(NameTaken, 1, "node a", "lot a", "end")
        self.assert_raises(NameTaken, 2, "lot a", "end", "lot a", "end")
        self.assert_raises(NameTaken, 1, "edge a b", "lot b", "end")

    def test_same_needs_names(self):
        self.assert_raises(NoName, 0, "same a b")
        self.assert_raises(NoName, 1, "node a", "same a b")
        self.assert_raises(NameTaken, 2, "node a", "lot b", "same a b", "end")
        self.assert_raises(NameTaken, 3, "lot b", "node a", "end", "same b a")

    def test_the_first_name_with_a_fault_decides(self):
        inside = ("lot b", "node a", "end", "node c")
        self.assert_raises(NoName, 4, *inside, "same x a")
        self.assert_raises(NameTaken, 4, *inside, "same a x")
        self.assert_raises(NoName, 4, *inside, "same c b x a")
        self.assert_raises(NameTaken, 4, *inside, "same c b a x")

    def test_too_many_items_of_one_graph(self):
        graph_of(*EIGHT)
        self.assert_raises(TooLarge, 8, *EIGHT, "node i")
        self.assert_raises(TooLarge, 8, *EIGHT, "edge a i")
        self.assert_raises(TooLarge, 8, *EIGHT, "lot i", "end")
        graph_of(*EIGHT, "edge a h", "node a width=2", "group", "end")
        self.assert_raises(TooLarge, 0, "edge a b c d e f g h i")
        self.assert_raises(TooLarge, 6, *EIGHT[:6], "edge a x y z")
        graph_of(*EIGHT[:6], "edge a x y x a y")

    def test_too_many_items_in_all(self):
        first = ("lot x", "edge ka kb kc kd ke kf kg kh", "end")
        second = ("lot y", "edge la lb lc ld le lf lg lh", "end")
        graph_of(*first, *second, "node p", "node q")
        self.assert_raises(TooLarge, 8, *first, *second, "node p", "node q", "node r")
        self.assert_raises(TooLarge, 6, *first, *second, "edge p q r")
        self.assert_raises(TooLarge, 8, *first, *second, "node p", "lot q", "node r", "end")

    def test_too_many_edges_of_one_graph(self):
        graph_of("edge a b a b a b a b a b a b a")
        self.assert_raises(TooLarge, 1, "edge a b a b a b a b a b a b a", "edge a b")
        self.assert_raises(TooLarge, 1, "edge a b a b a b a b a b a b", "edge a b a")
        self.assert_raises(TooLarge, 1, "edge a b a b a b a b a b a b a", "edge a a")

    def test_too_many_edges_in_all(self):
        lines = ("lot x", "edge a b a b a b a b a b a b a", "end", "lot y", "edge c d c d c d c d c d c d c", "end")
        graph_of(*lines, "edge x y x y x y x")
        self.assert_raises(TooLarge, 6, *lines, "edge x y x y x y x y")
        self.assert_raises(TooLarge, 7, *lines, "edge x y x y x y x", "edge x x")

    def test_too_many_lots(self):
        lines = [line for name in "abcdef" for line in ("lot " + name, "end")]
        graph_of(*lines)
        self.assert_raises(TooLarge, 12, *lines, "lot g", "end")

    def test_too_deep(self):
        graph_of("lot a", "lot b", "lot c", "node d", "end", "end", "end")
        self.assert_raises(TooLarge, 3, "lot a", "lot b", "lot c", "lot d", "end", "end", "end", "end")

    def test_loop_label(self):
        self.assert_raises(LoopLabel, 0, "edge a a label=x")
        self.assert_raises(LoopLabel, 0, "edge a b b label=x")
        self.assert_raises(LoopLabel, 1, "edges label=x", "edge a a")
        graph_of("edges label=x", "edge a a label=", "edge a a label= firm=yes")

    def test_flat_edge(self):
        self.assert_raises(FlatEdge, 3, "node a", "node b", "same a b", "edge a b")
        self.assert_raises(FlatEdge, 3, "node a", "node b", "same a b", "edge c b a")
        self.assert_raises(FlatEdge, 1, "edge a b", "same b a")
        self.assert_raises(FlatEdge, 2, "edge a b c", "same a c", "same c b")
        graph_of("node a", "node b", "same a b", "edge a a", "edge b b", "edge a c", "edge b c")

    def test_firm_ring(self):
        self.assert_raises(FirmRing, 1, "edge a b firm=yes", "edge b a firm=yes")
        self.assert_raises(FirmRing, 0, "edge a b a firm=yes")
        self.assert_raises(FirmRing, 2, "edges firm=yes", "edge a b c", "edge c a")
        self.assert_raises(FirmRing, 3, "edge a b firm=yes", "edge c d firm=yes", "same b c", "same a d")
        self.assert_raises(FirmRing, 4, "edge a b firm=yes", "node c", "node d", "same a d", "edge b d firm=yes")
        graph_of("edge a b c firm=yes", "edge c a", "edge a a firm=yes", "edge a c firm=yes")

    def test_unclosed(self):
        self.assert_raises(Unclosed, 0, "group")
        self.assert_raises(Unclosed, 2, "group", "node a", "lot b", "node c")
        self.assert_raises(Unclosed, 1, "node a", "lot b", "group", "end")
        self.assert_raises(Unclosed, 3, "group", "group", "end", "group", "group", "end")

    def test_the_first_statement_decides(self):
        self.assert_raises(BadPlace, 1, "group", "graph down=3", "same a b")
        self.assert_raises(NoName, 1, "group", "same a b", "end", "end")
        self.assert_raises(LoopLabel, 2, "group", "node a", "edge a a label=x")

    def test_names_come_before_sizes(self):
        self.assert_raises(NameTaken, 9, "lot x", "node a", "end", "node b", "node c", "node d", "node e", "node f", "node g",
                           "edge h i j a")
        self.assert_raises(NameTaken, 3, "lot a", "lot b", "lot c", "lot a", "end", "end", "end", "end")
        self.assert_raises(NameTaken, 8, *EIGHT, "lot a", "end")

    def test_sizes_come_before_edges(self):
        self.assert_raises(TooLarge, 8, *EIGHT, "edge a a i label=x")
        self.assert_raises(TooLarge, 0, "edge a b c d e f g h i a firm=yes")
        full = "edge a b a b a b a b a b a b a"
        self.assert_raises(TooLarge, 1, full, "edge a a label=x")
        self.assert_raises(TooLarge, 3, "edge a b a b a b a b a b a b a", "node c", "same a c", "edge a c")

    def test_edges_are_looked_at_in_order(self):
        start = ("node a", "node b", "same a b")
        self.assert_raises(FlatEdge, 3, *start, "edge a b b label=x")
        self.assert_raises(LoopLabel, 3, *start, "edge a a b label=x")
        self.assert_raises(FirmRing, 3, *start, "edge a c a b firm=yes")
        self.assert_raises(FirmRing, 3, *start, "edge a c b a firm=yes")
        self.assert_raises(FlatEdge, 3, *start, "edge a b c a firm=yes")
        self.assert_raises(LoopLabel, 0, "edge a b b a firm=yes label=x")
        self.assert_raises(FirmRing, 0, "edge a b a a firm=yes label=x")

    def test_same_looks_for_flat_edges_before_firm_rings(self):
        self.assert_raises(FlatEdge, 3, "edge a b firm=yes", "edge b c firm=yes", "edge a d", "same a c d")
        self.assert_raises(FirmRing, 2, "edge a b firm=yes", "edge b c firm=yes", "same a c")
        self.assert_raises(FlatEdge, 1, "edge a b c firm=yes", "same a b")

    def test_an_error_comes_before_unclosed(self):
        self.assert_raises(NoName, 1, "lot a", "same b c")

    def test_edges_of_other_graphs_do_not_matter(self):
        graph_of("lot x", "edge a b firm=yes", "end", "lot y", "edge c d firm=yes", "end", "edge y x firm=yes")


if __name__ == "__main__":
    unittest.main()

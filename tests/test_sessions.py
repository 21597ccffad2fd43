"""The calls that the document shows ahead of its interface."""

import unittest

from drawnlayers.arrange.turning import closing_ring
from drawnlayers.desk.desk import Desk
from drawnlayers.desk.script import run_script
from drawnlayers.errors import BadLine, RisingRing, Refused
from drawnlayers.graph.alike import needless_lines
from drawnlayers.graph.build import build_graph
from drawnlayers.heights.best import best_heights
from drawnlayers.heights.certificate import certificate
from drawnlayers.heights.system import is_balanced, worth
from drawnlayers.ink.reading import read_back
from drawnlayers.net.walkers import tied
from drawnlayers.orders.chosen import chosen_orders
from drawnlayers.text.lines import read_line
from drawnlayers.text.texts import read_text
from drawnlayers.ways.leads import Lead
from drawnlayers.ways.runs import way
from drawnlayers.ways.spans import Span
from drawnlayers.whole.picture import draw


class SessionsTest(unittest.TestCase):
    def test_reading(self):
        self.assertEqual(read_line("node ab label=A.1 width=9"), ("node", "ab", (("label", "A.1"), ("width", 9))))
        with self.assertRaises(BadLine) as caught:
            read_line("edge a  b")
        self.assertEqual(caught.exception.line, 0)
        with self.assertRaises(BadLine) as caught:
            read_text("group\nnode A\nend")
        self.assertEqual(caught.exception.line, 1)

    def test_building(self):
        self.assertEqual(
            build_graph((("edge", ("a", "b"), ()),)),
            ((2, 4, 2), (("a", "$", 1, 1, None), ("b", "$", 1, 1, None)), (), ((0, 1, "", 1, 1, 1, False),)))

    def test_needless_lines(self):
        self.assertEqual(needless_lines("node a\nedge a b"), [0])

    def test_closing_a_ring(self):
        self.assertEqual(closing_ring(build_graph(read_text("edge a b price=1\nedge b c a price=3")), 0), (0, 1, 2))

    def test_heights(self):
        system = (3, ((0, 1, 2), (1, 2, 2)), ((0, 2, 1, 3),))
        self.assertEqual(certificate(system), ((0, 2, 4), ((3,), (3, 3)), (None, ("bound", 0), ("bound", 1))))
        self.assertEqual(best_heights(system), (0, 2, 4))
        self.assertTrue(is_balanced(system, ((3,), (3, 3))))
        self.assertEqual(worth(system, ((3,), (3, 3))), 9)
        with self.assertRaises(RisingRing) as caught:
            best_heights((2, ((0, 1, 2), (1, 0, -1)), ()))
        self.assertIn(caught.exception.ring, ((0, 1), (1, 0)))

    def test_walkers_and_orders(self):
        self.assertEqual(tied(((0, 0, 1, 1), ((0, 2), (1, 3))), (0, 1), (2, 3)), (True, False))
        self.assertEqual(chosen_orders(((0, 0, 1, 1), ((0, 2), (0, 3), (1, 2), (1, 3)))), ((0, 1), (2, 3)))

    def test_ways_and_leads(self):
        self.assertEqual(way((Span(4, 4), Span(0, 6), Span(5, 9), Span(7, 7), Span(2, 2))), (4, 4, 7, 7, 2))
        point = Lead(0, 4).meeting(Lead(1, 0))
        self.assertEqual([point[0].written(), point[1].written()], ["1/5", "4/5"])

    def test_drawing_and_reading_back(self):
        self.assertEqual(draw("edge a b").ink.written(),
                         "box 0 0 3 3\nbox 0 7 3 3\nhead 1 7 down\nline 1 3 7\ntext 1 1 a\ntext 1 8 b")
        self.assertEqual(read_back(draw("edge a b").ink),
                         (((0, 0, 3, 3, "box", "a", None), (0, 7, 3, 3, "box", "b", None)), ((0, 1, ""),)))

    def test_desks(self):
        desk = Desk("edge a b")
        self.assertEqual(run_script(desk, "put 0 group ; put 2 end\nundo\nundo"), ["done", "done", "nothing"])
        desk = Desk("edge a b")
        with self.assertRaises(Refused) as caught:
            desk.do(("take", 1))
        self.assertEqual(caught.exception.index, 0)


if __name__ == "__main__":
    unittest.main()

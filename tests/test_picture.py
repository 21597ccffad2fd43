"""Points 64, 84, 85, 86 and 87, with points 10, 82 and 83."""

import random
import unittest

from drawnlayers.errors import BadLine, BadPlace, DrawError, FirmRing, NoGraph, TooLarge, TooWide, Unclosed
from drawnlayers.graph.graphs import shown_label, walk_graphs
from drawnlayers.ink.score import Score
from drawnlayers.places.layout import layout_of
from drawnlayers.whole.picture import Picture, draw
from drawnlayers.whole.plan import plan_of
from helpers import graph_of, many_pictures

def wide(first, second):
    """Lines of a graph that is too wide."""
    return [f"edge {first} {second} span=2"] * 8


def text_of(*lines):
    return "\n".join(lines)


class PictureTest(unittest.TestCase):
    def test_the_example(self):
        picture = draw("edge a b")
        self.assertEqual(picture.ink.written(), "box 0 0 3 3\nbox 0 7 3 3\nhead 1 7 down\nline 1 3 7\ntext 1 1 a\ntext 1 8 b")
        self.assertEqual((picture.width, picture.height), (3, 10))
        self.assertEqual(picture.boxes(), [("a", 0, 0, 3, 3), ("b", 0, 7, 3, 3)])
        self.assertEqual(picture.origin(""), (0, 0))
        self.assertEqual(picture.graph, graph_of("edge a b"))
        self.assertTrue(picture.score == Score(0, 0, 0))

    def test_no_items(self):
        picture = draw("")
        self.assertEqual((picture.ink.marks, picture.width, picture.height, picture.boxes()), ((), 0, 0, []))
        self.assertEqual(picture.graph, ((2, 4, 2), (), (), ()))
        self.assertEqual((picture.plan(""), picture.layout("")), (plan_of(picture.graph), layout_of(picture.graph, plan_of(picture.graph), {})))

    def test_plans_layouts_and_origins_of_all_graphs(self):
        for text, picture in many_pictures(60, seed=84):
            sizes = {name: (picture.layout(name)["width"], picture.layout(name)["height"]) for name, _ in walk_graphs(picture.graph)}
            for name, graph in walk_graphs(picture.graph):
                self.assertEqual(picture.plan(name), plan_of(graph), text)
                inner = {item[0]: sizes[item[0]] for item in graph[1] if item[4] is not None}
                self.assertEqual(picture.layout(name), layout_of(graph, plan_of(graph), inner), text)
                for item, (x, y, w, h) in zip(graph[1], picture.layout(name)["boxes"]):
                    if item[4] is not None:
                        self.assert_inside(picture, picture.origin(name), item, (x, y, w, h))
            self.assertEqual((picture.width, picture.height), sizes[""])
            self.assertEqual(picture.graph, graph_of(text))

    def assert_inside(self, picture, outer, item, box):
        """Point 64: the origin of the inner graph of a lot."""
        x, y, w, h = box[0] + outer[0], box[1] + outer[1], box[2], box[3]
        width, height = picture.layout(item[0])["width"], picture.layout(item[0])["height"]
        margin = item[4][0][2]
        label = 1 if shown_label(item) else 0
        at = picture.origin(item[0])
        self.assertIs(type(at), tuple)
        self.assertEqual(at, (x + (w - width) // 2, y + margin + label))
        self.assertTrue(at[0] - x >= margin and x + w - at[0] - width >= margin)
        self.assertTrue(at[1] - y >= margin and y + h - at[1] - height >= margin)

    def test_origins(self):
        self.assertEqual(draw("lot a\nnode b\nend").origin("a"), (2, 3))
        self.assertEqual(draw("lot a label=\nnode b\nend").origin("a"), (2, 2))
        self.assertEqual(draw("graph margin=9\nlot a label=\nnode b\nend").origin("a"), (9, 9))
        # The margin is that of the inner graph, also if the outer one has another one.
        self.assertEqual(draw("graph margin=9\nlot a\ngraph margin=1\nnode b\nend").origin("a"), (1, 2))
        # Of an odd rest, the left side has the lesser half.
        for width, x in ((7, 2), (8, 2), (9, 3), (10, 3), (30, 13)):
            self.assertEqual(draw(f"lot a width={width}\nnode b\nend").origin("a"), (x, 3))
        self.assertEqual(draw("lot a height=20\nnode b\nend").origin("a"), (2, 3))

    def test_origins_of_lots_in_lots(self):
        picture = draw("edge q r\nlot a\nlot b label=\nlot c\nnode d\nend\nend\nend\nedge r a")
        self.assertEqual(picture.layout("")["boxes"][2][:2], (0, 14))
        self.assertEqual([picture.origin(name) for name in ("", "a", "b", "c")], [(0, 0), (2, 17), (4, 19), (6, 22)])

    def test_boxes(self):
        picture = draw("node q\nlot a\nlot b\nnode c\nend\nnode d\nend\nnode e\nlot f\nend")
        self.assertEqual([box[0] for box in picture.boxes()], ["q", "a", "b", "c", "d", "e", "f"])
        for text, picture in many_pictures(30, seed=87):
            expected = []

            def add(name, graph):
                x, y = picture.origin(name)
                for item, box in zip(graph[1], picture.layout(name)["boxes"]):
                    expected.append((item[0], box[0] + x, box[1] + y, box[2], box[3]))
                    if item[4] is not None:
                        add(item[0], item[4])

            add("", picture.graph)
            self.assertEqual(picture.boxes(), expected, text)
            marks = [mark[1:] for mark in picture.ink if mark[0] in ("box", "frame")]
            self.assertEqual(sorted(box[1:] for box in expected), sorted(marks), text)

    def test_names_of_no_graph(self):
        picture = draw("lot a\nlot b\nend\nnode c\nend\nnode d")
        for name in ("c", "d", "e", "aa", "root"):
            for method in (picture.plan, picture.layout, picture.origin):
                with self.assertRaises(NoGraph) as caught:
                    method(name)
                self.assertEqual(caught.exception.name, name)
        for name in ("", "a", "b"):
            self.assertIsNotNone(picture.plan(name) and picture.layout(name) and picture.origin(name))

    def test_what_is_returned_is_new(self):
        picture = draw("lot a\nedge b c\nend")
        for name in ("", "a"):
            plan, layout = picture.plan(name), picture.layout(name)
            picture.plan(name).clear()
            picture.layout(name)["boxes"] = None
            self.assertEqual((picture.plan(name), picture.layout(name)), (plan, layout))
        picture.boxes().clear()
        self.assertEqual(len(picture.boxes()), 3)

    def test_equal_texts_give_equal_pictures(self):
        for text, picture in many_pictures(20, seed=88):
            for other in (draw(text), Picture(graph_of(text)), Picture(picture.graph)):
                self.assertEqual(other.ink.marks, picture.ink.marks)
                self.assertEqual(other.boxes(), picture.boxes())
                self.assertEqual((other.width, other.height, other.graph), (picture.width, picture.height, picture.graph))
                for name, _ in walk_graphs(picture.graph):
                    self.assertEqual((other.plan(name), other.layout(name)), (picture.plan(name), picture.layout(name)))

    def test_the_inside_of_a_lot_alone(self):
        picture = draw("node q\nlot a\ngraph across=5\nedge b c label=x\nedge b d\nend\nedge q a")
        alone = Picture(picture.graph[1][1][4])
        x, y = picture.origin("a")
        moved = alone.ink.moved(x, y)
        self.assertEqual((moved - picture.ink).marks, ())
        self.assertEqual((alone.width, alone.height), (picture.layout("a")["width"], picture.layout("a")["height"]))


class ErrorsTest(unittest.TestCase):
    def assert_raises(self, kind, line, *lines):
        with self.assertRaises(kind) as caught:
            draw(text_of(*lines))
        self.assertIsInstance(caught.exception, DrawError)
        self.assertEqual(next(iter(vars(caught.exception).values())), line)

    def test_reading_comes_first(self):
        self.assert_raises(BadLine, 11, "end", *wide("a", "b"), "edge a b firm=yes", "edge b a firm=yes", "oops")
        self.assert_raises(BadLine, 1, "node a", "")
        self.assert_raises(BadLine, 0, "", "")
        self.assert_raises(TooLarge, 80, "end", *["node a"] * 79, "oops")
        self.assert_raises(BadLine, 3, "end", "node a", "node b", "node C", *["node a"] * 90)

    def test_building_comes_next(self):
        self.assert_raises(BadPlace, 8, *wide("a", "b"), "end")
        self.assert_raises(FirmRing, 9, *wide("a", "b"), "edge c d firm=yes", "edge d c firm=yes")
        self.assert_raises(Unclosed, 8, *wide("a", "b"), "group")
        self.assert_raises(TooLarge, 12, *["edge a b"] * 13)

    def test_wide_graphs_come_last(self):
        self.assert_raises(TooWide, "", *wide("a", "b"))
        self.assert_raises(TooWide, "", *["node " + name for name in "abcdefgh"])

    def test_the_first_wide_graph(self):
        self.assert_raises(TooWide, "q", "lot q", *wide("a", "b"), "end")
        # The root is the first one of its graphs, though it is laid out last.
        self.assert_raises(TooWide, "", "lot q", *wide("a", "b"), "end", *wide("c", "d"))
        self.assert_raises(TooWide, "q", "lot q", "lot p", *wide("a", "b"), "end", *wide("c", "d"), "end", "node z")
        self.assert_raises(TooWide, "p", "lot q", "lot p", *wide("a", "b"), "end", "end", "lot r", *wide("c", "d"), "end")
        self.assert_raises(TooWide, "r", "lot q", "lot p", "end", "end", "lot s", "lot r", *wide("a", "b"), "end", "end", "lot t",
                           *wide("c", "d"), "end")

    def test_a_picture_of_a_wide_graph(self):
        graph = graph_of("lot q", *wide("a", "b"), "end", *wide("c", "d"))
        with self.assertRaises(TooWide) as caught:
            Picture(graph)
        self.assertEqual(caught.exception.name, "")
        with self.assertRaises(TooWide) as caught:
            Picture((graph[0], graph[1], (), ()))
        self.assertEqual(caught.exception.name, "q")
        with self.assertRaises(TooWide) as caught:
            Picture(graph[1][0][4])
        self.assertEqual(caught.exception.name, "")


class PlanOfPicturesTest(unittest.TestCase):
    def test_only_what_point_85_names_matters(self):
        base = ["edge a b label=x price=2", "edge b c a", "edge c c", "edge a d weight=3", "same b d"]
        plan = draw(text_of(*base)).plan("")
        for lines in (
            ["graph across=9 down=20 margin=9", *base],
            ["nodes width=30 height=20 label=$$$$$$", *base],
            ["edge a b label=other price=2", *base[1:]],
            ["node a", *base],
            ["lot a", "edge p q", "edge p r", "edge s q", "edge s r", "end", *base],
            [line.replace(" d", " delta") for line in base],
        ):
            self.assertEqual(draw(text_of(*lines)).plan(""), plan, lines)
        for lines in (["edge a b price=2", *base[1:]], base[1:], [*base, "node e"], [*base, "edge a d span=3"]):
            self.assertNotEqual(draw(text_of(*lines)).plan(""), plan, lines)

    def test_sizes_never_make_a_crossing(self):
        source = random.Random(86)
        for text, picture in many_pictures(25, seed=89):
            if text.count("\n") > 76:
                continue
            other = draw(text_of(f"nodes width={source.randint(1, 30)} height={source.randint(1, 20)}",
                                 f"graph across={source.randint(1, 9)}", text))
            for name, _ in walk_graphs(picture.graph):
                self.assertEqual(other.plan(name), picture.plan(name), text)
            self.assertEqual(other.score.crossings, picture.score.crossings, text)


if __name__ == "__main__":
    unittest.main()

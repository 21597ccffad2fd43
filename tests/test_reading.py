"""Points 77, 81 and 86: what is read back from an ink is its graph."""

import random
import unittest

from drawnlayers.ink.ink import Ink, joined
from drawnlayers.ink.reading import read_back
from drawnlayers.whole.inking import graph_marks
from drawnlayers.whole.picture import draw
from helpers import many_pictures, reading_of

FAR = 999999


def moved_reading(reading, dx, dy):
    rectangles, edges = reading
    return (tuple((row[0] + dx, row[1] + dy, *row[2:]) for row in rectangles), edges)


class ReadingTest(unittest.TestCase):
    def assert_read(self, *lines):
        picture = draw("\n".join(lines))
        found = read_back(picture.ink)
        self.assertEqual(found, reading_of(picture))
        self.assertEqual([type(part) for part in (found, *found)], [tuple] * 3)
        return found

    def test_the_example(self):
        expected = (((0, 0, 3, 3, "box", "a", None), (0, 7, 3, 3, "box", "b", None)), ((0, 1, ""),))
        self.assertEqual(self.assert_read("edge a b"), expected)

    def test_no_marks(self):
        self.assertEqual(read_back(Ink(())), ((), ()))
        self.assertEqual(self.assert_read(), ((), ()))

    def test_boxes_without_labels(self):
        rectangles, edges = self.assert_read("node a label=", "edge a b")
        self.assertEqual([row[5] for row in rectangles], ["", "b"])
        self.assertEqual(edges, ((0, 1, ""),))
        # Without a label the box is so small that the edge has just room between its corners.
        self.assertEqual(rectangles[0][2:4], (2, 1))

    def test_long_labels(self):
        rectangles, _ = self.assert_read("node abcdef label=$$$$$$")
        self.assertEqual(rectangles, ((0, 0, 38, 3, "box", "abcdef" * 6, None),))

    def test_loops(self):
        self.assertEqual(self.assert_read("edge a a")[1], ((0, 0, ""),))
        self.assertEqual(self.assert_read("edge a a a a b b", "edge b c")[1],
                         ((0, 0, ""), (0, 0, ""), (0, 0, ""), (0, 1, ""), (1, 1, ""), (1, 2, "")))

    def test_directions_and_labels(self):
        _, edges = self.assert_read("edge a b label=to", "edge b a label=back", "edge b c", "edge a c span=3")
        self.assertEqual(len(edges), 4)
        self.assertEqual({edge[2] for edge in edges}, {"to", "back", ""})

    def test_turned_edges(self):
        self.assertEqual(self.assert_read("edge a b price=9", "edge b a label=x")[1], ((0, 1, ""), (1, 0, "x")))
        self.assert_read("edge a b c d a", "edge d b span=3", "edge c a label=x")

    def test_edges_side_by_side(self):
        self.assertEqual(self.assert_read(*["edge a b"] * 9)[1], ((0, 1, ""),) * 9)
        self.assertEqual(self.assert_read(*["edge a b label=x"] * 6)[1], ((0, 1, "x"),) * 6)
        self.assert_read("edge a b", "edge b a", "edge a b label=q", "edge b a label=q", "edge a b span=4")

    def test_lots_in_lots(self):
        rectangles, edges = self.assert_read("lot a", "lot b", "lot c", "edge d e label=in", "edge d d", "end", "edge c f", "end",
                                             "edge b g", "end", "edge a h label=out", "edge a a")
        self.assertEqual([row[4:] for row in rectangles[:4]], [("frame", "a", None), ("frame", "b", 0), ("frame", "c", 1), ("box", "d", 2)])
        self.assertEqual(len(edges), 6)

    def test_lots_without_labels_and_without_items(self):
        self.assert_read("graph margin=1", "lot a label=", "lot b label=", "edge x y", "end", "lot c", "end", "edge b c", "end", "edge a a")
        rectangles, _ = self.assert_read("graph margin=1", "lot a label=", "end")
        self.assertEqual(rectangles, ((0, 0, 2, 2, "frame", "", None),))

    def test_classes(self):
        rectangles, _ = self.assert_read("edge a b c", "edge a d", "same c d")
        self.assertEqual({row[5]: row[1] for row in rectangles}, {"a": 0, "b": 7, "c": 14, "d": 14})

    def test_settings_at_both_ends_of_their_ranges(self):
        for across in (1, 9):
            for down in (2, 20):
                for margin in (1, 9):
                    self.assert_read(f"graph across={across} down={down} margin={margin}", "lot a", "edge x y label=long.1", "edge x z",
                                     "edge y z span=4", "edge z z", "edge w z", "end", "lot b label=", "edge p q", "edge p p", "end",
                                     "edge a b label=x", "edge a b", "edge b c", "edge a c", "edge c a", "edge c c")

    def test_many_texts(self):
        found = {"loops": 0, "notes": 0, "deep": 0, "up": 0, "crossed": 0}
        for text, picture in many_pictures(120, seed=77):
            reading = read_back(picture.ink)
            self.assertEqual(reading, reading_of(picture), text)
            words = [mark[0] for mark in picture.ink]
            found["loops"] += "loop" in words
            found["notes"] += "note" in words
            found["deep"] += any(row[6] is not None and reading[0][row[6]][6] is not None for row in reading[0])
            found["up"] += any(mark[0] == "head" and mark[3] == "up" for mark in picture.ink)
            found["crossed"] += picture.score.crossings > 0
        self.assertGreater(min(found.values()), 9, found)

    def test_moved_inks(self):
        source = random.Random(77)
        for text, picture in many_pictures(15, seed=177):
            reading = reading_of(picture)
            dx, dy = source.randint(-50, 50), source.choice((0, FAR, -FAR))
            self.assertEqual(read_back(picture.ink.moved(dx, dy)), moved_reading(reading, dx, dy), text)
            far = picture.ink.moved(FAR, -FAR).moved(FAR, -FAR)
            self.assertEqual(read_back(far), moved_reading(reading, 2 * FAR, -2 * FAR), text)

    def test_inks_that_were_written_and_read(self):
        for text, picture in many_pictures(15, seed=277):
            self.assertEqual(read_back(Ink.read(picture.ink.written())), reading_of(picture), text)
            self.assertEqual(read_back(Ink(picture.ink.marks[::-1])), reading_of(picture), text)

    def test_two_pictures_side_by_side(self):
        left = draw("edge a b\nedge b b")
        right = draw("lot x\nedge y z label=q\nend")
        both = read_back(joined(left.ink, right.ink.moved(100, -5)))
        self.assertEqual(both[1], ((0, 1, ""), (1, 1, ""), (3, 4, "q")))
        self.assertEqual([row[6] for row in both[0]], [None, None, None, 2, 2])

    def test_the_marks_of_one_graph_alone(self):
        picture = draw("lot a\nedge b c label=x\nedge b b\nend\nedge a d")
        inner = picture.graph[1][0][4]
        marks = graph_marks(inner, picture.plan("a"), picture.layout("a"), (0, 0))
        self.assertEqual(read_back(Ink(marks)), reading_of(draw("edge b c label=x\nedge b b")))
        root = graph_marks(picture.graph, picture.plan(""), picture.layout(""), (0, 0))
        self.assertEqual([row[4:] for row in read_back(Ink(root))[0]], [("frame", "a", None), ("box", "d", None)])


class RulesOfReadingTest(unittest.TestCase):
    """The parts of point 77, mark by mark."""

    PICTURE = "edge a b label=x"

    def without(self, *words):
        return Ink([mark for mark in draw(self.PICTURE).ink if mark[0] not in words])

    def test_an_edge_needs_a_head(self):
        self.assertEqual(read_back(self.without())[1], ((0, 1, "x"),))
        self.assertEqual(read_back(self.without("head"))[1], ())

    def test_a_label_needs_a_text(self):
        self.assertEqual([row[5] for row in read_back(self.without())[0]], ["a", "b"])
        self.assertEqual([row[5] for row in read_back(self.without("text"))[0]], ["", ""])
        self.assertEqual(read_back(self.without("box")), ((), ()))

    def test_a_way_needs_all_its_pieces(self):
        self.assertEqual(read_back(self.without("note"))[1], ())
        self.assertEqual(read_back(self.without("line"))[1], ())

    def test_a_head_up_at_the_beginning(self):
        ink = Ink([("box", 0, 0, 4, 2), ("box", 0, 6, 4, 2), ("line", 1, 2, 6), ("head", 1, 2, "up")])
        self.assertEqual(read_back(ink)[1], ((1, 0, ""),))
        self.assertEqual(read_back(ink - Ink([("head", 1, 2, "up")]) + Ink([("head", 1, 6, "down")]))[1], ((0, 1, ""),))
        self.assertEqual(read_back(ink - Ink([("head", 1, 2, "up")]) + Ink([("head", 1, 2, "down"), ("head", 1, 6, "up")]))[1], ())

    def test_ways_begin_and_end_strictly_between_corners(self):
        boxes = [("box", 0, 0, 4, 2), ("box", 0, 6, 4, 2)]
        for x in range(-1, 6):
            ink = Ink([*boxes, ("line", x, 2, 6), ("head", x, 6, "down")])
            self.assertEqual(read_back(ink)[1], ((0, 1, ""),) if 0 < x < 4 else ())

    def test_the_smallest_rectangle_has_the_text(self):
        frames = [("frame", 0, 0, 20, 20), ("frame", 2, 2, 10, 10), ("box", 4, 4, 5, 5)]
        for point, index in (((1, 1), 0), ((2, 2), 1), ((12, 12), 1), ((4, 4), 2), ((9, 9), 2), ((9, 10), 1), ((13, 12), 0)):
            rows = read_back(Ink([*frames, ("text", *point, "q")]))[0]
            self.assertEqual([row[5] for row in rows], ["q" if at == index else "" for at in range(3)], point)
        self.assertEqual([row[6] for row in rows], [None, 0, 1])

    def test_a_box_holds_no_rectangle(self):
        for word, holder in (("box", None), ("frame", 0)):
            rows = read_back(Ink([(word, 0, 0, 20, 20), ("box", 2, 2, 3, 3)]))[0]
            self.assertEqual([row[6] for row in rows], [None, holder])

    def test_the_least_area_decides(self):
        box = ("box", 5, 5, 1, 1)
        for frames in ([("frame", 4, 0, 2, 30), ("frame", 0, 0, 10, 10)], [("frame", 0, 4, 30, 2), ("frame", 1, 0, 10, 10)]):
            rows = read_back(Ink([box, *frames, ("text", 5, 7, "q") if frames[0][4] == 30 else ("text", 7, 5, "q")]))[0]
            holder = [row[:5] for row in rows].index((*frames[0][1:], "frame"))
            self.assertEqual([row[6] for row in rows if row[4] == "box"], [holder])
            self.assertEqual([row[5] for row in rows], ["q" if at == holder else "" for at in range(3)])

    def test_sides_are_included(self):
        rows = read_back(Ink([("frame", 0, 0, 9, 9), ("box", 5, 5, 4, 4), ("box", 6, 0, 4, 1)]))[0]
        self.assertEqual([row[6] for row in rows], [None, 0, None])

    def test_a_loop_belongs_to_the_rectangle_at_its_left(self):
        ink = Ink([("box", 0, 0, 3, 5), ("box", 10, 0, 3, 5), ("loop", 3, 2, 3, 2), ("loop", 13, 5, 6, 2), ("loop", 13, 6, 7, 2), ("loop", 12, 1, 2, 2)])
        self.assertEqual(read_back(ink)[1], ((0, 0, ""), (1, 1, "")))
        for y0, edges in ((-1, ()), (0, ((0, 0, ""),)), (5, ((0, 0, ""),)), (6, ())):
            self.assertEqual(read_back(Ink([("box", 0, 0, 3, 5), ("loop", 3, y0, 9, 2)]))[1], edges)


if __name__ == "__main__":
    unittest.main()

"""Point 75."""

import copy
import random
import unittest

from drawnlayers.graph.graphs import shown_label, walk_graphs
from drawnlayers.ink.follow import follow
from drawnlayers.ink.ink import Ink
from drawnlayers.ink.marks import end_of, is_mark, moved_mark
from drawnlayers.places.layout import layout_of
from drawnlayers.places.sizes import note_of
from drawnlayers.whole.inking import graph_marks
from drawnlayers.whole.picture import draw
from drawnlayers.whole.plan import plan_of
from helpers import graph_of, many_pictures, planned_graphs


def marks_for(*lines, origin=(0, 0), **inner):
    graph = graph_of(*lines)
    plan = plan_of(graph)
    return graph_marks(graph, plan, layout_of(graph, plan, inner), origin)


def edge_marks_by_words(graph, plan, layout, edge):
    """The parts of point 75 that tell of an edge that is not a loop, straight."""
    tail, head, label = graph[3][edge][:3]
    upper, lower = (head, tail) if edge in plan["turned"] else (tail, head)
    places = [upper] + [place for place, owner in enumerate(plan["owners"]) if owner[0] == "station" and owner[1] == edge] + [lower]
    stops = layout["ways"][edge]
    floor = [top + max(layout["heights"][place] for place in order) for top, order in zip(layout["tops"], plan["orders"])]
    rank = plan["ranks"][upper]
    x, y, w, h = layout["boxes"][upper]
    # Every upright unit of the edge, so that stretches that touch are joined by themselves.
    units, marks = set(), set()
    for n, (stop, place) in enumerate(zip(stops, places)):
        level = rank + n
        if n == 0:
            begin, end = y + h, floor[level]
        elif place == lower:
            begin = end = 0
        else:
            begin, end = layout["tops"][level] + (note_of(graph, plan, place) is not None), floor[level]
            if note_of(graph, plan, place) is not None:
                marks.add(("note", layout["positions"][place], layout["tops"][level], label))
        units |= {(stop, at) for at in range(begin, end)}
        if place != lower:
            below = layout["tops"][level + 1]
            if stops[n + 1] == stop:
                units |= {(stop, at) for at in range(floor[level], below)}
            else:
                marks.add(("curve", stop, floor[level], stops[n + 1], below))
    for x, at in units:
        if (x, at - 1) not in units:
            end = at
            while (x, end) in units:
                end += 1
            marks.add(("line", x, at, end))
    if edge in plan["turned"]:
        return marks | {("head", stops[0], y + h, "up")}
    return marks | {("head", stops[-1], layout["tops"][rank + len(stops) - 1], "down")}


def marks_by_words(graph, plan, layout, origin):
    marks = set()
    loops = [0] * len(graph[1])
    for number, item in enumerate(graph[1]):
        x, y, w, h = layout["boxes"][number]
        label = shown_label(item)
        marks.add(("box" if item[4] is None else "frame", x, y, w, h))
        if label and item[4] is None:
            marks.add(("text", x + (w - len(label)) // 2, y + (h - 1) // 2, label))
        elif label:
            marks.add(("text", x + 1, y + 1, label))
    count = [sum(edge[0] == edge[1] == number for edge in graph[3]) for number in range(len(graph[1]))]
    for number, edge in enumerate(graph[3]):
        if edge[0] == edge[1]:
            x, y, w, h = layout["boxes"][edge[0]]
            j = loops[edge[0]]
            loops[edge[0]] += 1
            marks.add(("loop", x + w, y + count[edge[0]] - j, y + count[edge[0]] + 1 + j, 2 * (j + 1)))
        else:
            marks |= edge_marks_by_words(graph, plan, layout, number)
    return sorted(moved_mark(mark, *origin) for mark in marks)


class GraphMarksTest(unittest.TestCase):
    def test_no_items(self):
        self.assertEqual(marks_for(), [])
        self.assertEqual(marks_for(origin=(5, 6)), [])

    def test_the_example(self):
        expected = [("box", 0, 0, 3, 3), ("box", 0, 7, 3, 3), ("head", 1, 7, "down"), ("line", 1, 3, 7), ("text", 1, 1, "a"), ("text", 1, 8, "b")]
        self.assertEqual(marks_for("edge a b"), expected)
        self.assertEqual(marks_for("edge a b", origin=(100, -7)), [moved_mark(mark, 100, -7) for mark in expected])

    def test_labels_in_the_middle_of_their_boxes(self):
        for width, x in ((4, 1), (5, 1), (6, 2), (7, 2), (30, 14)):
            for height, y in ((3, 1), (4, 1), (5, 2), (20, 9)):
                marks = marks_for(f"node a label=xy width={width} height={height}")
                self.assertEqual(marks, [("box", 0, 0, width, height), ("text", x, y, "xy")])

    def test_an_empty_label_has_no_text(self):
        self.assertEqual(marks_for("node a label="), [("box", 0, 0, 1, 1)])
        self.assertEqual(marks_for("lot a label=", "end", a=(7, 8)), [("frame", 0, 0, 11, 12)])

    def test_lots(self):
        self.assertEqual(marks_for("lot a", "node z", "end", a=(7, 8)), [("frame", 0, 0, 11, 13), ("text", 1, 1, "a")])

    def test_loops(self):
        self.assertEqual(marks_for("edge a a"), [("box", 0, 0, 3, 3), ("loop", 3, 1, 2, 2), ("text", 1, 1, "a")])
        self.assertEqual(marks_for("edge a a", "edge b b", "edge a a a")[2:6],
                         [("loop", 3, 1, 6, 6), ("loop", 3, 2, 5, 4), ("loop", 3, 3, 4, 2), ("loop", 14, 1, 2, 2)])

    def test_a_turned_edge_has_its_head_at_the_upper_end(self):
        marks = marks_for("edge a b", "edge b a", "nodes label=", "node a width=8 height=2", "node b width=8")
        self.assertEqual([mark for mark in marks if mark[0] in ("head", "line")],
                         [("head", 2, 7, "down"), ("head", 5, 3, "up"), ("line", 2, 3, 7), ("line", 5, 3, 7)])

    def test_an_edge_begins_at_its_box_and_not_at_the_floor(self):
        marks = marks_for("node a height=9", "node b height=2 label=", "edge a c", "edge b c", "edge b d")
        self.assertEqual([mark for mark in marks if mark[0] in ("line", "curve")],
                         [("curve", 6, 9, 2, 13), ("line", 1, 9, 13), ("line", 6, 2, 9), ("line", 7, 2, 13)])

    def test_notes(self):
        self.assertEqual(marks_for("edge a b label=wide", "graph down=2")[2:6], [
            ("head", 3, 8, "down"), ("line", 3, 3, 5), ("line", 3, 6, 8), ("note", 0, 5, "wide")])

    def test_a_note_on_a_level_with_a_high_box(self):
        marks = marks_for("edge a b label=x", "edge a c", "node c height=9", "graph down=2")
        # Behind the note the line goes on through the rest of the level, and down to the box.
        self.assertEqual([mark for mark in marks if mark[0] in ("note", "line", "curve")],
                         [("curve", 5, 3, 1, 5), ("line", 6, 3, 5), ("line", 6, 6, 16), ("note", 5, 5, "x")])

    def test_a_long_edge_is_one_line_if_it_does_not_bend(self):
        self.assertEqual([mark for mark in marks_for("edge a b span=4", "graph down=3") if mark[0] == "line"], [("line", 1, 3, 15)])

    def test_against_the_words(self):
        source = random.Random(75)
        kinds = {word: 0 for word in ("box", "frame", "text", "note", "line", "curve", "head", "loop")}
        for graph, plan, inner in planned_graphs(300, seed=75):
            layout = layout_of(graph, plan, inner)
            origin = (source.randint(-99, 99), source.randint(-99, 99))
            before = copy.deepcopy((plan, layout))
            marks = graph_marks(graph, plan, layout, origin)
            self.assertIs(type(marks), list)
            self.assertEqual(marks, marks_by_words(graph, plan, layout, origin))
            self.assertEqual(marks, sorted(set(marks)))
            self.assertTrue(all(is_mark(mark) for mark in marks))
            self.assertEqual((plan, layout), before)
            for mark in marks:
                kinds[mark[0]] += 1
        self.assertGreater(min(kinds.values()), 30)


class PictureInkTest(unittest.TestCase):
    def test_an_ink_has_the_marks_of_all_graphs(self):
        for text, picture in many_pictures(50, seed=75):
            marks = []
            for name, graph in walk_graphs(picture.graph):
                args = (graph, picture.plan(name), picture.layout(name), picture.origin(name))
                alone = graph_marks(*args)
                self.assertEqual(alone, marks_by_words(*args), text)
                marks.extend(alone)
            self.assertEqual(picture.ink.marks, tuple(sorted(marks)), text)
            self.assertTrue(all(is_mark(mark) for mark in marks))

    def test_every_way_can_be_followed(self):
        for text, picture in many_pictures(40, seed=76):
            for name, graph in walk_graphs(picture.graph):
                plan, layout, (x, y) = picture.plan(name), picture.layout(name), picture.origin(name)
                for number, stops in enumerate(layout["ways"]):
                    if stops is not None:
                        upper = graph[3][number][number in plan["turned"]]
                        box = layout["boxes"][upper]
                        pieces = list(follow(picture.ink, x + stops[0], y + box[1] + box[3]))
                        lower = graph[3][number][number not in plan["turned"]]
                        self.assertEqual(end_of(pieces[-1]), (x + stops[-1], y + layout["boxes"][lower][1]), text)
                        self.assertEqual([piece[3] for piece in pieces if piece[0] == "note"], [graph[3][number][2]] * bool(graph[3][number][2]))

    def test_ways_touch_nothing_but_their_own(self):
        """What point 78 says of the ink of a picture, for all upright lines, notes, boxes and loops."""
        for text, picture in many_pictures(25, seed=79):
            marks = picture.ink.marks
            boxes = [mark[1:5] for mark in marks if mark[0] == "box"]
            boxes += [(x, y, len(word) + 2, 1) for kind, x, y, word in (mark for mark in marks if mark[0] == "note")]
            boxes += [(x, y0, d, y1 - y0) for kind, x, y0, y1, d in (mark for mark in marks if mark[0] == "loop")]
            for kind, x, y0, y1 in (mark for mark in marks if mark[0] == "line"):
                for bx, by, w, h in boxes:
                    inside = bx <= x <= bx + w and by < y1 and y0 < by + h
                    self.assertFalse(inside, text)

    def test_boxes_of_one_level_do_not_overlap(self):
        for text, picture in many_pictures(25, seed=81):
            boxes = [mark for mark in picture.ink.marks if mark[0] == "box"]
            for at, (_, x, y, w, h) in enumerate(boxes):
                for _, x1, y1, w1, h1 in boxes[at + 1:]:
                    self.assertTrue(x + w < x1 or x1 + w1 < x or y + h < y1 or y1 + h1 < y, text)

    def test_the_largest_picture_stays_within_the_range_of_marks(self):
        lines = ["graph across=9 down=20 margin=9", "nodes width=30 height=20"]
        for depth, names in enumerate(("abcd", "efgh", "ijkl")):
            lines += ["edge " + " ".join(names) + " span=4"] * 2 + ["lot " + "uvw"[depth]]
        picture = draw("\n".join(lines + ["end"] * 3))
        self.assertTrue(all(is_mark(mark) for mark in picture.ink))
        self.assertEqual(Ink.read(picture.ink.written()).marks, picture.ink.marks)


if __name__ == "__main__":
    unittest.main()

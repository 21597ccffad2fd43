"""Points 58 and 59, with point 15."""

import copy
import unittest

from drawnlayers.graph.graphs import shown_label
from drawnlayers.places.sizes import box_sizes, full_widths, note_of
from drawnlayers.whole.plan import plan_of
from helpers import graph_of, planned_graphs


def planned(*lines):
    graph = graph_of(*lines)
    return graph, plan_of(graph)


def sizes_of(*lines, **insides):
    graph, plan = planned(*lines)
    return box_sizes(graph, plan, insides)


def notes_of(graph, plan):
    return [note_of(graph, plan, place) for place in range(len(plan["levels"]))]


def sizes_by_words(graph, plan, inner):
    """Point 58, straight."""
    found = []
    for number, (name, label, width, height, inside) in enumerate(graph[1]):
        ups = [segment for segment in plan["segments"] if segment[1] == number]
        downs = [segment for segment in plan["segments"] if segment[0] == number]
        loops = [edge for edge in graph[3] if edge[0] == edge[1] == number]
        s = len(shown_label(graph[1][number]))
        box_width = max(width, len(ups) + 1, len(downs) + 1)
        box_height = max(height, 2 * len(loops) + 1)
        if s != 0:
            box_width, box_height = max(box_width, s + 2), max(box_height, 3)
        if inside is not None:
            (w, h), m = inner[name], inside[0][2]
            box_width = max(box_width, w + 2 * m)
            box_height = max(box_height, h + 2 * m + 1 if s != 0 else h + 2 * m)
        found.append((box_width, box_height, box_width + 2 * len(loops)))
    return tuple(found)


def note_by_words(graph, plan, place):
    """Point 59, straight."""
    owner = plan["owners"][place]
    if owner[0] != "station":
        return None
    tail, head, label = graph[3][owner[1]][:3]
    upper, lower = (head, tail) if owner[1] in plan["turned"] else (tail, head)
    r = plan["ranks"][upper]
    length = plan["ranks"][lower] - r
    return label if label != "" and owner[2] == r + length // 2 else None


class SizesTest(unittest.TestCase):
    def test_the_example_of_point_64(self):
        self.assertEqual(sizes_of("edge a b"), ((3, 3, 3), (3, 3, 3)))

    def test_no_items(self):
        self.assertEqual(sizes_of(), ())

    def test_labels(self):
        self.assertEqual(sizes_of("node a label="), ((1, 1, 1),))
        self.assertEqual(sizes_of("node a"), ((3, 3, 3),))
        self.assertEqual(sizes_of("node abcdef"), ((8, 3, 8),))
        self.assertEqual(sizes_of("node abcdef label=$$$$$$"), ((38, 3, 38),))
        self.assertEqual(sizes_of("node abcdef label=A$"), ((9, 3, 9),))
        self.assertEqual(sizes_of("node a label=1234"), ((6, 3, 6),))

    def test_values(self):
        self.assertEqual(sizes_of("node a width=30 height=20"), ((30, 20, 30),))
        self.assertEqual(sizes_of("node a width=2 height=2"), ((3, 3, 3),))
        self.assertEqual(sizes_of("node a width=4 height=4"), ((4, 4, 4),))
        self.assertEqual(sizes_of("node a label= width=2 height=2"), ((2, 2, 2),))

    def test_up_and_down_counts(self):
        fan = ["nodes label="] + ["edge a " + name for name in "bcdefg"]
        self.assertEqual(sizes_of(*fan), ((7, 1, 7),) + ((2, 1, 2),) * 6)
        gather = ["nodes label="] + [f"edge {name} a" for name in "bcdefg"]
        self.assertEqual(sizes_of(*gather)[1], (7, 1, 7))
        both = ["nodes label=", "edge a b c", "edge a b", "edge b d", "edge b e"]
        self.assertEqual(sizes_of(*both)[1], (4, 1, 4))
        # An edge that is turned leaves its head.
        self.assertEqual(sizes_of("nodes label=", "edge a b price=9", "edge a b price=9", "edge b a")[:2], ((4, 1, 4), (4, 1, 4)))

    def test_loops(self):
        self.assertEqual(sizes_of("node a label=", "edge a a"), ((1, 3, 3),))
        self.assertEqual(sizes_of("edge a a"), ((3, 3, 5),))
        self.assertEqual(sizes_of("edge a a a b b"), ((3, 5, 7), (3, 3, 5)))
        self.assertEqual(sizes_of("node a height=20 width=9", "edge a a"), ((9, 20, 11),))
        self.assertEqual(sizes_of("edge " + "a " * 12 + "a"), ((3, 25, 27),))

    def test_lots(self):
        self.assertEqual(sizes_of("lot a", "end", a=(0, 0)), ((4, 5, 4),))
        self.assertEqual(sizes_of("lot a label=", "end", a=(0, 0)), ((4, 4, 4),))
        self.assertEqual(sizes_of("lot a", "graph margin=9", "end", a=(10, 20)), ((28, 39, 28),))
        self.assertEqual(sizes_of("graph margin=9", "lot a label=", "graph margin=1", "end", a=(10, 20)), ((12, 22, 12),))
        self.assertEqual(sizes_of("lot a label=q", "end", a=(20000, 20000)), ((20004, 20005, 20004),))
        self.assertEqual(sizes_of("lot a width=30 height=20", "end", a=(3, 3)), ((30, 20, 30),))
        self.assertEqual(sizes_of("lot abcdef", "end", a=(0, 0), abcdef=(1, 0)), ((8, 5, 8),))
        self.assertEqual(sizes_of("lot a", "end", "edge a a a a", a=(1, 1)), ((5, 7, 11),))

    def test_several_lots_each_with_its_own_size(self):
        lines = ("lot a", "end", "lot b", "graph margin=1", "node c", "end", "edge b a")
        self.assertEqual(sizes_of(*lines, a=(10, 1), b=(20, 2)), ((14, 6, 14), (22, 5, 22)))

    def test_against_the_words(self):
        for graph, plan, inner in planned_graphs(150, seed=58):
            before = copy.deepcopy((plan, inner))
            sizes = box_sizes(graph, plan, inner)
            self.assertEqual(sizes, sizes_by_words(graph, plan, inner))
            widths = full_widths(graph, plan, inner)
            notes = notes_of(graph, plan)
            self.assertEqual(notes, [note_by_words(graph, plan, place) for place in range(len(notes))])
            self.assertEqual(widths[:len(sizes)], tuple(size[2] for size in sizes))
            self.assertEqual(widths[len(sizes):], tuple(0 if note is None else len(note) + 2 for note in notes[len(sizes):]))
            labels = sorted(edge[2] for edge in graph[3] if edge[2])
            self.assertEqual(sorted(note for note in notes if note is not None), labels)
            self.assertEqual((plan, inner), before)


class NotesTest(unittest.TestCase):
    def assert_notes(self, lines, stations):
        """The notes of the stations, in the order of the net; items are none."""
        graph, plan = planned(*lines)
        many = len(graph[1])
        self.assertEqual(notes_of(graph, plan), [None] * many + stations)

    def test_items_and_edges_without_labels(self):
        self.assert_notes(["edge a b"], [])
        self.assert_notes(["edge a b span=4"], [None, None, None])
        self.assert_notes(["node a label=x", "edge a a"], [])

    def test_one_note_in_the_middle(self):
        self.assert_notes(["edge a b label=x"], ["x"])
        self.assert_notes(["edge a b label=x span=2"], ["x"])
        self.assert_notes(["edge a b label=x span=3"], ["x", None])
        self.assert_notes(["edge a b label=x span=4"], [None, "x", None])
        self.assert_notes(["edge a b span=4", "edge b c span=2", "edge a c label=long_1"],
                          [None] * 4 + [None, None, "long_1", None, None])

    def test_the_middle_is_counted_from_the_upper_end(self):
        self.assert_notes(["edge a b", "edge b c span=3 label=x"], ["x", None])
        self.assert_notes(["edge a b span=2", "edge b c span=3 label=x"], [None, "x", None])
        # A turned edge: its head is above.
        self.assert_notes(["edge a b span=3 price=9", "edge b a label=y"], [None, None, "y", None])
        self.assert_notes(["edge z a", "edge a b span=3 price=9", "edge b a label=y"], [None, None, "y", None])

    def test_several_edges_each_with_its_note(self):
        self.assert_notes(["edge a b label=x", "edge a b label=y", "edge a b", "edge b c label=x"], ["x", "y", None, "x"])

    def test_widths_of_stations(self):
        graph, plan = planned("edge a b label=long_1", "edge a b label=x", "edge a b")
        self.assertEqual(full_widths(graph, plan, {}), (4, 4, 8, 3, 0))


if __name__ == "__main__":
    unittest.main()

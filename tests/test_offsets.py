"""Point 60, with the example of point 64."""

import random
import unittest

from drawnlayers.places.offsets import offsets
from drawnlayers.places.sizes import box_sizes, note_of
from drawnlayers.whole.plan import plan_of
from helpers import graph_of, planned_graphs, random_orders


def offsets_of(lines, orders=None, **insides):
    graph = graph_of(*lines)
    plan = plan_of(graph)
    if orders is not None:
        plan["orders"] = orders
    return offsets(graph, plan, insides)


def offsets_by_words(graph, plan, inner):
    """Point 60, straight."""
    index = {place: at for order in plan["orders"] for at, place in enumerate(order)}
    boxes = [size[0] for size in box_sizes(graph, plan, inner)]
    found = [[None, None] for _ in plan["segments"]]
    for place, owner in enumerate(plan["owners"]):
        for side in (0, 1):
            mine = [number for number, segment in enumerate(plan["segments"]) if segment[side] == place]
            if owner[0] == "item":
                mine.sort(key=lambda number: (index[plan["segments"][number][1 - side]], plan["carriers"][number]))
                for j, number in enumerate(mine):
                    found[number][side] = (j + 1) * boxes[place] // (len(mine) + 1)
            else:
                note = note_of(graph, plan, place)
                for number in mine:
                    found[number][side] = 0 if note is None else (len(note) + 2) // 2
    return tuple(tuple(pair) for pair in found)


class OffsetsTest(unittest.TestCase):
    def test_the_example(self):
        self.assertEqual(offsets_of(["edge a b"]), ((1, 1),))

    def test_no_segments(self):
        self.assertEqual(offsets_of([]), ())
        self.assertEqual(offsets_of(["node a", "edge b b"]), ())

    def test_one_segment_in_the_middle(self):
        for width in (3, 4, 5, 30):
            self.assertEqual(offsets_of([f"nodes width={width}", "edge a b"]), ((width // 2, width // 2),))
        self.assertEqual(offsets_of(["nodes label=", "edge a b"]), ((1, 1),))

    def test_several_segments_share_the_width(self):
        lines = ["node a width=20", "edge a b", "edge a c", "edge a d"]
        self.assertEqual(offsets_of(lines, ((0,), (1, 2, 3))), ((5, 1), (10, 1), (15, 1)))
        self.assertEqual(offsets_of(lines, ((0,), (3, 1, 2))), ((10, 1), (15, 1), (5, 1)))
        self.assertEqual(offsets_of(["node a width=10", *lines[1:]], ((0,), (3, 2, 1))), ((7, 1), (5, 1), (2, 1)))
        upward = ["node a width=20", "edge b a", "edge c a", "edge d a"]
        self.assertEqual(offsets_of(upward, ((2, 3, 1), (0,))), ((1, 15), (1, 5), (1, 10)))

    def test_segments_between_the_same_two_places_go_by_their_edge(self):
        self.assertEqual(offsets_of(["nodes width=8", "edge a b", "edge a b", "edge a b"]), ((2, 2), (4, 4), (6, 6)))
        lines = ["nodes width=12", "edge a b", "edge a c", "edge a b", "edge d c", "edge a c", "edge d c"]
        self.assertEqual(offsets_of(lines, ((0, 3), (2, 1))),
                         ((7, 4), (2, 2), (9, 8), (4, 7), (4, 4), (8, 9)))

    def test_turned_edges_are_attached_by_their_number_too(self):
        self.assertEqual(offsets_of(["nodes width=8", "edge b a", "edge a b price=9", "edge a b price=9"]),
                         ((2, 2), (4, 4), (6, 6)))

    def test_stations_and_notes(self):
        self.assertEqual(offsets_of(["edge a b span=2"]), ((1, 0), (0, 1)))
        self.assertEqual(offsets_of(["edge a b label=x"]), ((1, 1), (1, 1)))
        self.assertEqual(offsets_of(["edge a b label=xy"]), ((1, 2), (2, 1)))
        self.assertEqual(offsets_of(["edge a b label=long_1 span=4"]), ((1, 0), (0, 4), (4, 0), (0, 1)))

    def test_boxes_with_loops_count_without_the_room_of_the_loops(self):
        self.assertEqual(offsets_of(["edge a a a b"]), ((1, 1),))

    def test_lots(self):
        lines = ["lot a", "graph margin=1", "end", "edge a b", "edge a c", "edge d a"]
        self.assertEqual(offsets_of(lines, ((3,), (0,), (1, 2)), a=(28, 5)), ((10, 1), (20, 1), (1, 15)))
        self.assertEqual(offsets_of(lines, ((3,), (0,), (2, 1)), a=(3, 5)), ((3, 1), (1, 1), (1, 2)))

    def test_against_the_words(self):
        source = random.Random(60)
        for graph, plan, inner in planned_graphs(150, seed=60):
            for orders in (plan["orders"], random_orders(source, (plan["levels"], plan["segments"]))):
                plan["orders"] = orders
                self.assertEqual(offsets(graph, plan, inner), offsets_by_words(graph, plan, inner))


if __name__ == "__main__":
    unittest.main()

"""Point 83, with points 58 to 63, 67 and 68."""

import copy
import unittest

from drawnlayers.heights.certificate import certificate, check_reasons
from drawnlayers.places.layout import layout_of
from drawnlayers.places.offsets import offsets
from drawnlayers.places.sizes import box_sizes, note_of
from drawnlayers.places.system import place_system
from drawnlayers.whole.plan import plan_of
from helpers import graph_of, planned_graphs
from test_runs import way_by_words
from test_slots import slot_by_words

KEYS = {"widths", "heights", "offsets", "positions", "tops", "width", "height", "boxes", "chains", "ways"}


def layout_for(*lines, **inner):
    graph = graph_of(*lines)
    return layout_of(graph, plan_of(graph), inner)


def chain_by_words(graph, plan, layout, edge):
    """Point 67, straight."""
    tail, head = graph[3][edge][:2]
    if tail == head:
        return None
    numbers = [number for number, carrier in enumerate(plan["carriers"]) if carrier == edge]
    upper, lower = (head, tail) if edge in plan["turned"] else (tail, head)
    begin = layout["positions"][upper] + layout["offsets"][numbers[0]][0]
    end = layout["positions"][lower] + layout["offsets"][numbers[-1]][1]
    stations = [place for place, owner in enumerate(plan["owners"]) if owner[0] == "station" and owner[1] == edge]
    slots = [slot_by_words(graph, plan, layout, place) for place in stations]
    return ((begin, begin), *slots, (end, end))


class LayoutTest(unittest.TestCase):
    def test_no_items(self):
        self.assertEqual(layout_for(), {
            "widths": (), "heights": (), "offsets": (), "positions": (), "tops": (), "width": 0, "height": 0, "boxes": (),
            "chains": (), "ways": (),
        })

    def test_the_example(self):
        self.assertEqual(layout_for("edge a b"), {
            "widths": (3, 3), "heights": (3, 3), "offsets": ((1, 1),), "positions": (0, 0), "tops": (0, 7), "width": 3,
            "height": 10, "boxes": ((0, 0, 3, 3), (0, 7, 3, 3)), "chains": (((1, 1), (1, 1)),), "ways": ((1, 1),),
        })

    def test_one_node(self):
        layout = layout_for("node a width=9 height=5 label=")
        self.assertEqual((layout["width"], layout["height"], layout["boxes"]), (9, 5, ((0, 0, 9, 5),)))
        self.assertEqual((layout["tops"], layout["chains"], layout["ways"]), ((0,), (), ()))

    def test_loops(self):
        layout = layout_for("edge a a a b")
        self.assertEqual(layout["widths"], (7, 3))
        self.assertEqual(layout["heights"], (5, 3))
        self.assertEqual(layout["boxes"], ((0, 0, 3, 5), (0, 9, 3, 3)))
        self.assertEqual((layout["width"], layout["height"]), (7, 12))
        self.assertEqual(layout["chains"], (None, None, ((1, 1), (1, 1))))
        self.assertEqual(layout["ways"], (None, None, (1, 1)))

    def test_notes(self):
        layout = layout_for("graph down=2", "edge a b label=wide")
        self.assertEqual(layout["widths"], (3, 3, 6))
        self.assertEqual(layout["heights"], (3, 3, 1))
        self.assertEqual(layout["tops"], (0, 5, 8))
        self.assertEqual(layout["height"], 11)
        self.assertEqual(layout["positions"], (2, 2, 0))
        self.assertEqual(layout["width"], 6)
        self.assertEqual((layout["chains"], layout["ways"]), ((((3, 3), (3, 3), (3, 3)),), ((3, 3, 3),)))

    def test_a_level_of_bare_stations_has_no_height(self):
        layout = layout_for("edge a b span=2", "graph down=2")
        self.assertEqual((layout["heights"], layout["tops"], layout["height"]), ((3, 3, 0), (0, 5, 7), 10))

    def test_lots(self):
        layout = layout_for("lot a", "graph margin=3", "end", "edge a b", "node c", a=(10, 20))
        self.assertEqual(layout["boxes"][0], (0, 0, 16, 27))
        self.assertEqual(layout["tops"], (0, 31))
        self.assertEqual(layout["boxes"][1][2:], (3, 3))
        self.assertEqual(layout["width"], 21)
        self.assertEqual(layout["height"], 34)

    def test_turned_edges_go_down_from_their_heads(self):
        layout = layout_for("edge a b", "edge b a", "node a width=9", "node b width=6")
        graph = graph_of("edge a b", "edge b a", "node a width=9", "node b width=6")
        self.assertEqual(plan_of(graph)["turned"], (1,))
        self.assertEqual(layout["chains"], (((3, 3), (3, 3)), ((6, 6), (5, 5))))
        self.assertEqual(layout["ways"], ((3, 3), (6, 5)))

    def test_a_way_that_bends(self):
        layout = layout_for("nodes width=9", "edge a b span=3", "edge c b", "edge a d", "same c d")
        self.assertEqual([bool(ways) for ways in layout["ways"]], [True] * 3)
        self.assertEqual(len(layout["ways"][0]), 4)

    def test_against_the_words(self):
        bent = 0
        for graph, plan, inner in planned_graphs(250, seed=83):
            before = copy.deepcopy((plan, inner))
            layout = layout_of(graph, plan, inner)
            self.assertEqual((plan, inner), before)
            self.assertIs(type(layout), dict)
            self.assertEqual(set(layout), KEYS)
            self.assert_places(graph, plan, inner, layout)
            chains = tuple(chain_by_words(graph, plan, layout, edge) for edge in range(len(graph[3])))
            self.assertEqual(layout["chains"], chains)
            self.assertEqual(layout["ways"], tuple(None if chain is None else way_by_words(chain) for chain in chains))
            bent += any(way is not None and len(set(way)) > 1 for way in layout["ways"])
            for key in KEYS - {"width", "height"}:
                self.assertIs(type(layout[key]), tuple, key)
        self.assertGreater(bent, 50)

    def assert_places(self, graph, plan, inner, layout):
        sizes = box_sizes(graph, plan, inner)
        notes = [note_of(graph, plan, place) for place in range(len(sizes), len(plan["levels"]))]
        self.assertEqual(layout["widths"], tuple([size[2] for size in sizes] + [len(note) + 2 if note else 0 for note in notes]))
        self.assertEqual(layout["heights"], tuple([size[1] for size in sizes] + [1 if note else 0 for note in notes]))
        self.assertEqual(layout["offsets"], offsets(graph, plan, inner))
        system = place_system(graph, plan, inner)
        heights, forces, reasons = certificate(system)
        self.assertEqual(layout["positions"], heights)
        self.assertTrue(check_reasons(system, heights, forces, reasons))
        top = bottom = 0
        for level, order in enumerate(plan["orders"]):
            self.assertEqual(layout["tops"][level], top)
            bottom = top + max(layout["heights"][place] for place in order)
            top = bottom + graph[0][1]
        self.assertEqual(layout["height"], bottom)
        self.assertEqual(layout["width"], max(map(sum, zip(layout["positions"], layout["widths"])), default=0))
        boxes = tuple((layout["positions"][item], layout["tops"][plan["levels"][item]], size[0], size[1])
                      for item, size in enumerate(sizes))
        self.assertEqual(layout["boxes"], boxes)

    def test_other_orders_and_sizes(self):
        graph = graph_of("edge a b", "edge a c", "edge d c")
        plan = plan_of(graph)
        plan["orders"] = ((3, 0), (1, 2))
        layout = layout_of(graph, plan, {})
        self.assertLess(layout["positions"][3], layout["positions"][0])
        self.assertLess(layout["positions"][1], layout["positions"][2])

    def test_a_new_dict_each_time(self):
        graph = graph_of("edge a b")
        layout_of(graph, plan_of(graph), {}).clear()
        self.assertEqual(set(layout_of(graph, plan_of(graph), {})), KEYS)


if __name__ == "__main__":
    unittest.main()

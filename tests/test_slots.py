"""Point 66."""

import itertools
import random
import unittest

from drawnlayers.places.layout import layout_of
from drawnlayers.places.sizes import note_of
from drawnlayers.ways.slots import slot_of
from drawnlayers.ways.spans import Span
from drawnlayers.whole.plan import plan_of
from helpers import graph_of, planned_graphs

# Two bare stations (3 and 4), a note of the full width 4 (5), and a box (2) on one level.
LINES = ("graph across=3", "edge a b span=2", "edge a b span=2", "edge a b label=xy", "edge a c", "edge c c", "node c width=6")
WIDTHS = {2: 8, 3: 0, 4: 0, 5: 4}


def placed(order, rooms, last):
    """The graph, its plan with this order of its level 1, and its layout.

    The first place stands at rooms[0], and each other one so much farther than it must be from the place before; the
    width of the graph is so much more than the position of the last place.
    """
    graph = graph_of(*LINES)
    plan = plan_of(graph)
    plan["orders"] = (plan["orders"][0], tuple(order), plan["orders"][2])
    layout = layout_of(graph, plan, {})
    positions = list(layout["positions"])
    x = 0
    for place, room in zip(order, rooms):
        positions[place] = x + room
        x = positions[place] + WIDTHS[place] + 3
    layout["positions"] = tuple(positions)
    layout["width"] = positions[order[-1]] + last
    return graph, plan, layout


def slot_by_words(graph, plan, layout, place):
    """Point 66, straight."""
    x = layout["positions"][place]
    if note_of(graph, plan, place) is not None:
        return (x + layout["widths"][place] // 2,) * 2

    def bare(other):
        return plan["owners"][other][0] == "station" and note_of(graph, plan, other) is None

    row = [order for order in plan["orders"] if place in order][0]
    at = row.index(place)
    left = x
    if at:
        e = x - layout["positions"][row[at - 1]] - layout["widths"][row[at - 1]] - graph[0][0]
        left = e - e // 2 if bare(row[at - 1]) else e
    right = layout["width"] - x
    if at + 1 < len(row):
        e = layout["positions"][row[at + 1]] - x - graph[0][0]
        right = e // 2 if bare(row[at + 1]) else e
    return (x - left, x + right)


class SlotsTest(unittest.TestCase):
    def assert_slot(self, found, low, high):
        self.assertIs(type(found), Span)
        self.assertEqual((found.low, found.high), (low, high))

    def slots(self, order, rooms, last):
        """The slots of the stations in their order, as pairs."""
        graph, plan, layout = placed(order, rooms, last)
        spans = [slot_of(graph, plan, layout, place) for place in order if place > 2]
        return [(span.low, span.high) for span in spans]

    def test_the_widths_of_the_level(self):
        graph, plan, layout = placed((2, 3, 4, 5), (0, 0, 0, 0), 0)
        self.assertEqual({place: layout["widths"][place] for place in WIDTHS}, WIDTHS)
        self.assertEqual(plan["levels"], (0, 2, 1, 1, 1, 1))

    def test_a_station_that_stands_first(self):
        self.assertEqual(self.slots((3, 2, 4, 5), (7, 0, 0, 0), 4)[0], (0, 7))
        self.assertEqual(self.slots((3, 2, 4, 5), (0, 5, 0, 0), 4)[0], (0, 5))
        self.assertEqual(self.slots((3, 5, 4, 2), (2, 5, 0, 0), 8)[0], (0, 7))

    def test_a_station_that_stands_last(self):
        self.assertEqual(self.slots((2, 4, 5, 3), (0, 0, 0, 0), 9)[-1], (21, 30))
        self.assertEqual(self.slots((2, 4, 5, 3), (0, 0, 0, 6), 0)[-1], (21, 27))
        self.assertEqual(self.slots((4, 5, 2, 3), (0, 0, 0, 6), 1)[-1], (21, 28))

    def test_room_between_two_stations_is_shared(self):
        for room, low, high in ((0, 0, 0), (1, 0, 1), (2, 1, 1), (3, 1, 2), (8, 4, 4), (9, 4, 5)):
            first, second = self.slots((3, 4, 5, 2), (0, room, 0, 0), 8)[:2]
            self.assertEqual(first, (0, low))
            self.assertEqual(second, (3 + room - high, 3 + room))
            # So the two slots lie just as far apart as they must.
            self.assertEqual(second[0] - first[1], 3)

    def test_room_beside_a_box_with_its_loops(self):
        self.assertEqual(self.slots((2, 3, 4, 5), (0, 5, 0, 0), 4)[0], (11, 16))
        self.assertEqual(self.slots((5, 3, 2, 4), (0, 0, 4, 0), 0)[1], (7, 11))

    def test_room_beside_a_note(self):
        self.assertEqual(self.slots((5, 3, 4, 2), (0, 5, 0, 0), 8)[1], (7, 12))
        self.assertEqual(self.slots((2, 3, 5, 4), (0, 0, 5, 0), 0)[0], (11, 16))

    def test_a_note_has_one_number(self):
        for order in ((5, 3, 4, 2), (3, 5, 4, 2), (3, 4, 2, 5)):
            graph, plan, layout = placed(order, (4, 4, 4, 4), 9)
            middle = layout["positions"][5] + 2
            self.assert_slot(slot_of(graph, plan, layout, 5), middle, middle)
        graph = graph_of("edge a b label=abc")
        plan = plan_of(graph)
        self.assert_slot(slot_of(graph, plan, layout_of(graph, plan, {}), 2), 2, 2)

    def test_a_station_alone(self):
        graph = graph_of("node a width=9", "edge a b span=3")
        plan = plan_of(graph)
        layout = layout_of(graph, plan, {})
        for place in (2, 3):
            self.assert_slot(slot_of(graph, plan, layout, place), 0, 9)

    def test_every_order_of_neighbours_against_the_words(self):
        source = random.Random(66)
        for order in itertools.permutations((2, 3, 4, 5)):
            for _ in range(6):
                rooms = [source.randint(0, 9) for _ in order]
                graph, plan, layout = placed(order, rooms, WIDTHS[order[-1]] + source.randint(0, 9))
                for place in (3, 4, 5):
                    self.assert_slot(slot_of(graph, plan, layout, place), *slot_by_words(graph, plan, layout, place))

    def test_graphs_against_the_words(self):
        for graph, plan, inner in planned_graphs(200, seed=66):
            layout = layout_of(graph, plan, inner)
            for place, owner in enumerate(plan["owners"]):
                if owner[0] == "station":
                    self.assert_slot(slot_of(graph, plan, layout, place), *slot_by_words(graph, plan, layout, place))

    def test_slots_lie_in_the_order_of_their_level_and_apart(self):
        for graph, plan, inner in planned_graphs(200, seed=166):
            layout = layout_of(graph, plan, inner)
            for order in plan["orders"]:
                ends = []
                for place in order:
                    x, width = layout["positions"][place], layout["widths"][place]
                    if plan["owners"][place][0] == "station" and note_of(graph, plan, place) is None:
                        span = slot_of(graph, plan, layout, place)
                        self.assertTrue(0 <= span.low <= x <= span.high <= layout["width"])
                        ends.append((span.low, span.high))
                    else:
                        ends.append((x, x + width))
                for left, right in zip(ends, ends[1:]):
                    self.assertGreaterEqual(right[0] - left[1], graph[0][0])


if __name__ == "__main__":
    unittest.main()

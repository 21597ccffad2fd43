"""Point 61 with point 29, and the positions of the example of point 64."""

import copy
import random
import unittest

from drawnlayers.heights.best import best_heights
from drawnlayers.heights.certificate import certificate, check_reasons
from drawnlayers.places.sizes import box_sizes, note_of
from drawnlayers.places.system import place_system
from drawnlayers.whole.plan import plan_of
from helpers import graph_of, planned_graphs, random_orders
from test_offsets import offsets_by_words


def system_of(lines, orders=None, **insides):
    graph = graph_of(*lines)
    plan = plan_of(graph)
    if orders is not None:
        plan["orders"] = orders
    return place_system(graph, plan, insides)


def system_by_words(graph, plan, inner):
    """Point 61, straight."""
    sizes = box_sizes(graph, plan, inner)

    def full_width(place):
        if place < len(sizes):
            return sizes[place][2]
        note = note_of(graph, plan, place)
        return 0 if note is None else len(note) + 2

    bounds = []
    for order in plan["orders"]:
        for at in range(len(order) - 1):
            bounds.append((order[at], order[at + 1], full_width(order[at]) + graph[0][0]))
    pulls = []
    for number, (upper, lower) in enumerate(plan["segments"]):
        up, low = offsets_by_words(graph, plan, inner)[number]
        stations = (upper >= len(sizes)) + (lower >= len(sizes))
        pulls.append((upper, lower, up - low, graph[3][plan["carriers"][number]][3] * (1 + stations)))
    return (len(plan["levels"]), tuple(bounds), tuple(pulls))


class PlaceSystemTest(unittest.TestCase):
    def test_the_example(self):
        system = system_of(["edge a b"])
        self.assertEqual(system, (2, (), ((0, 1, 0, 1),)))
        self.assertEqual(best_heights(system), (0, 0))

    def test_no_items(self):
        self.assertEqual(system_of([]), (0, (), ()))
        self.assertEqual(system_of(["node a"]), (1, (), ()))

    def test_neighbours(self):
        lines = ["node a", "node b width=9", "node c label=", "edge c c"]
        self.assertEqual(system_of(lines, ((0, 1, 2),)), (3, ((0, 1, 5), (1, 2, 11)), ()))
        self.assertEqual(system_of(lines, ((2, 1, 0),)), (3, ((2, 1, 5), (1, 0, 11)), ()))
        self.assertEqual(system_of(["graph across=9", *lines], ((2, 0, 1),)), (3, ((2, 0, 12), (0, 1, 12)), ()))

    def test_the_order_of_bounds_and_pulls(self):
        lines = ["edge c a", "edge c b", "edge d b", "edge d a", "edge e a"]
        orders = ((4, 0, 3), (2, 1))
        self.assertEqual(system_of(lines, orders), (
            5,
            ((4, 0, 5), (0, 3, 5), (2, 1, 5)),
            ((0, 1, 2 - 2, 1), (0, 2, 1 - 1, 1), (3, 2, 1 - 2, 1), (3, 1, 2 - 3, 1), (4, 1, 1 - 1, 1)),
        ))

    def test_weights(self):
        self.assertEqual(system_of(["edge a b weight=5"])[2], ((0, 1, 0, 5),))
        self.assertEqual(system_of(["edge a b weight=0"])[2], ((0, 1, 0, 0),))
        self.assertEqual(system_of(["edge a b weight=9 span=4"])[2],
                         ((0, 2, 1, 18), (2, 3, 0, 27), (3, 4, 0, 27), (4, 1, -1, 18)))

    def test_notes(self):
        self.assertEqual(system_of(["edge a b label=long_1 weight=2"])[2], ((0, 2, 1 - 4, 4), (2, 1, 4 - 1, 4)))
        graph = ["edge a b label=long_1", "edge a b label=xy", "edge a b span=2"]
        self.assertEqual(system_of(graph, ((0,), (4, 2, 3), (1,)))[1], ((4, 2, 2), (2, 3, 10)))
        self.assertEqual(system_of(graph, ((0,), (2, 3, 4), (1,)))[1], ((2, 3, 10), (3, 4, 6)))

    def test_several_segments_between_the_same_two_places(self):
        self.assertEqual(system_of(["node a width=8", "edge a b", "edge a b weight=3"])[2],
                         ((0, 1, 2 - 1, 1), (0, 1, 5 - 2, 3)))

    def test_lots(self):
        lines = ["graph across=1", "lot a", "graph across=9 margin=3", "end", "edge a b", "node c"]
        self.assertEqual(system_of(lines, ((0, 2), (1,)), a=(14, 0)), (3, ((0, 2, 21),), ((0, 1, 10 - 1, 1),)))

    def test_against_the_words(self):
        source = random.Random(61)
        for graph, plan, inner in planned_graphs(150, seed=61):
            for orders in (plan["orders"], random_orders(source, (plan["levels"], plan["segments"]))):
                plan["orders"] = orders
                before = copy.deepcopy((plan, inner))
                system = place_system(graph, plan, inner)
                self.assertEqual(system, system_by_words(graph, plan, inner))
                self.assertTrue(check_reasons(system, *certificate(system)))
                self.assertEqual((plan, inner), before)


if __name__ == "__main__":
    unittest.main()

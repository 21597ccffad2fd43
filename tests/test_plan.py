"""Points 82 and 85, with points 10, 26, 40, 43, 47 and 57."""

import random
import unittest

from drawnlayers.arrange.turning import turned_edges, turning_order
from drawnlayers.errors import TooWide
from drawnlayers.graph.graphs import class_list
from drawnlayers.heights.ranks import ranks
from drawnlayers.net.build import net_of
from drawnlayers.net.walkers import is_exchange
from drawnlayers.orders.chosen import chosen_orders
from drawnlayers.whole.plan import plan_of
from helpers import crossings_by_words, graph_of, level_rows, random_graphs, random_rich_graphs

KEYS = {"classes", "order", "turned", "ranks", "levels", "segments", "owners", "carriers", "exchange", "orders", "crossings"}


class PlanTest(unittest.TestCase):
    def assert_plan(self, graph):
        plan = plan_of(graph)
        self.assertIs(type(plan), dict)
        self.assertEqual(set(plan), KEYS)
        self.assertEqual(plan["classes"], class_list(graph))
        self.assertEqual(plan["order"], turning_order(graph))
        self.assertEqual(plan["turned"], turned_edges(graph))
        self.assertEqual(plan["ranks"], ranks(graph))
        self.assertEqual((plan["levels"], plan["segments"], plan["owners"], plan["carriers"]), net_of(graph))
        net = (plan["levels"], plan["segments"])
        if plan["exchange"] is None:
            self.assertEqual(plan["crossings"], 0)
        else:
            self.assertTrue(is_exchange(net, plan["exchange"]))
            self.assertGreater(plan["crossings"], 0)
        self.assertEqual(plan["orders"], chosen_orders(net))
        self.assertEqual([tuple(sorted(order)) for order in plan["orders"]], level_rows(net))
        self.assertEqual(plan["crossings"], crossings_by_words(net, plan["orders"]))
        for key in KEYS - {"exchange", "crossings"}:
            self.assertIsInstance(plan[key], tuple, key)
        self.assertIs(type(plan["crossings"]), int)
        return plan

    def assert_wide(self, graph):
        for name in ("", "a", "abcdef"):
            with self.assertRaises(TooWide) as caught:
                plan_of(graph, name=name)
            self.assertEqual(caught.exception.name, name)
        with self.assertRaises(TooWide) as caught:
            plan_of(graph)
        self.assertEqual(caught.exception.name, "")

    def test_no_items(self):
        self.assertEqual(plan_of(graph_of()), {
            "classes": (), "order": (), "turned": (), "ranks": (), "levels": (), "segments": (), "owners": (),
            "carriers": (), "exchange": None, "orders": (), "crossings": 0,
        })

    def test_one_edge(self):
        self.assertEqual(plan_of(graph_of("edge a b")), {
            "classes": ((0,), (1,)), "order": (0, 1), "turned": (), "ranks": (0, 1), "levels": (0, 1),
            "segments": ((0, 1),), "owners": (("item", 0), ("item", 1)), "carriers": (0,), "exchange": None,
            "orders": ((0,), (1,)), "crossings": 0,
        })

    def test_turned_edges_loops_labels_and_classes(self):
        plan = self.assert_plan(graph_of(
            "edge a b price=1", "edge b c a price=3", "edge a a", "edge c d label=x", "node e", "same d e"))
        self.assertEqual(plan["classes"], ((0,), (1,), (2,), (3, 4)))
        # b comes before c, and c before a; of all such orders the least one has the class of d at the end.
        self.assertEqual(plan["order"], (1, 2, 0, 3))
        self.assertEqual(plan["turned"], (0,))
        self.assertEqual(plan["ranks"], (2, 0, 1, 3, 3))
        self.assertEqual(plan["levels"], (2, 0, 1, 3, 3, 1, 2))
        self.assertEqual(plan["owners"][5:], (("station", 0, 1), ("station", 4, 2)))
        self.assertEqual(plan["segments"], ((1, 5), (5, 0), (1, 2), (2, 0), (2, 6), (6, 3)))
        self.assertEqual(plan["carriers"], (0, 0, 1, 2, 4, 4))
        self.assertEqual(plan["exchange"], None)

    def test_a_graph_with_an_exchange(self):
        plan = self.assert_plan(graph_of("edge a c", "edge a d", "edge b c", "edge b d"))
        self.assertEqual(plan["levels"], (0, 1, 1, 0))
        self.assertEqual(plan["orders"], ((0, 3), (1, 2)))
        self.assertEqual(plan["crossings"], 1)
        self.assertIsNotNone(plan["exchange"])

    def test_edges_that_stand_several_times_cross_as_often(self):
        lines = ["edge a c weight=0", "edge a d", "edge b c", "edge b d"]
        plan = self.assert_plan(graph_of(*lines, *lines))
        self.assertEqual(plan["crossings"], 4)

    def test_lots_are_items_like_others(self):
        plain = plan_of(graph_of("edge a b"))
        self.assertEqual(plan_of(graph_of("lot a", "edge x y", "edge x z", "edge w y", "edge w z", "end", "edge a b")), plain)

    def test_graphs_that_are_too_wide(self):
        self.assert_wide(graph_of(*["edge a b span=2"] * 8))
        self.assert_wide(graph_of(*["node " + name for name in "abcdefgh"]))
        self.assert_wide(graph_of("edge a b c d span=4", "edge a d", "edge a d", "edge a c span=4"))
        self.assert_plan(graph_of(*["edge a b span=2"] * 7))
        self.assert_plan(graph_of("edge a b c d span=4", "edge a d", "edge a d", "node e"))

    def test_a_name_that_is_passed_along_changes_nothing_else(self):
        graph = graph_of("edge a b", "edge c b")
        self.assertEqual(plan_of(graph, name="abc"), plan_of(graph))

    def test_a_new_dict_each_time(self):
        graph = graph_of("edge a b")
        plan_of(graph).clear()
        self.assertEqual(set(plan_of(graph)), KEYS)

    def test_random_graphs(self):
        found = {"exchange": 0, "turned": 0, "wide": 0}
        for graph in random_graphs(200, seed=82):
            try:
                plan = self.assert_plan(graph)
            except TooWide:
                found["wide"] += 1
                self.assert_wide(graph)
                continue
            found["exchange"] += plan["exchange"] is not None
            found["turned"] += plan["turned"] != ()
        self.assertGreater(min(found.values()), 2)

    def test_only_what_point_85_names_matters(self):
        source = random.Random(85)
        names = ["q", "wer", "abcdef", "t", "z", "u", "iop", "end"]
        for settings, items, classes, edges in random_rich_graphs(80, seed=85):
            graph = (settings, items, classes, edges)
            changed_items = []
            for name in names[:len(items)]:
                inner = source.choice((None, ((9, 9, 9), (("x" + name[0], "", 3, 3, None),), (), ())))
                changed_items.append((name, source.choice(("", "Q")), source.randint(1, 30), source.randint(1, 20), inner))
            changed_edges = tuple((*edge[:2], source.choice(("other", "?")) if edge[2] else "", *edge[3:]) for edge in edges)
            changed = ((1, 20, 9), tuple(changed_items), classes, changed_edges)
            self.assertNotEqual(changed, graph)
            try:
                plan = plan_of(graph)
            except TooWide:
                self.assert_wide(changed)
                continue
            self.assertEqual(plan_of(changed), plan)

    def test_what_point_85_names_does_matter(self):
        base = plan_of(graph_of("edge a b", "edge b a", "edge a c"))
        for lines in (
            ["edge a b", "edge b a", "edge a c", "node d"],
            ["edge a b", "edge b a", "edge a c", "same b c"],
            ["edge a b", "edge b a", "edge c a"],
            ["edge a b", "edge b a", "edge a c span=2"],
            ["edge a b", "edge b a", "edge a c label=x"],
            ["edge a b", "edge b a price=2", "edge a c"],
            ["edge a b", "edge b a firm=yes", "edge a c"],
        ):
            self.assertNotEqual(plan_of(graph_of(*lines)), base, lines)
        # The weights tell to which end of the long edge c is nearer.
        upper, lower = [plan_of(graph_of("edge a b span=4", *pair)) for pair in (
            ("edge a c weight=3", "edge c b"), ("edge a c", "edge c b weight=3"))]
        self.assertEqual((upper["ranks"], lower["ranks"]), ((0, 4, 1), (0, 4, 3)))


if __name__ == "__main__":
    unittest.main()

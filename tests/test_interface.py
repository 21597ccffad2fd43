"""The names of the interface stand in the files under which it lists them, and arguments are never changed."""

import ast
import copy
import importlib
import inspect
import pathlib
import unittest

INTERFACE = {
    "base.rings": {"find_ring": "(count, arcs)"},
    "text.words": {"is_name": "(word)", "is_label": "(word, *, plain=False)", "initial_values": "(kind)",
                   "is_value": "(kind, key, value)"},
    "text.lines": {"write_line": "(statement)", "read_line": "(line)"},
    "text.texts": {"write_text": "(statements)", "read_text": "(text)"},
    "text.making": {"node_line": "(name, **options)", "lot_line": "(name, **options)",
                    "edge_line": "(*names, **options)", "nodes_line": "(**options)", "edges_line": "(**options)",
                    "graph_line": "(**options)", "same_line": "(*names)"},
    "graph.graphs": {"class_list": "(graph)", "walk_graphs": "(graph)", "graph_named": "(graph, name)",
                     "shown_label": "(item)", "is_sound": "(graph)"},
    "graph.build": {"build_graph": "(statements)"},
    "graph.origins": {"origins": "(statements)"},
    "arrange.costs": {"Costs": "(size)"},
    "arrange.least": {"order_price": "(costs, order)", "least_order": "(costs)", "subset_table": "(costs)",
                      "check_table": "(costs, table)"},
    "arrange.turning": {"turning_costs": "(graph)", "turning_order": "(graph)", "turned_edges": "(graph)",
                        "closing_ring": "(graph, edge)"},
    "heights.system": {"keeps": "(system, heights)", "cost": "(system, heights)", "is_balanced": "(system, forces)",
                       "worth": "(system, forces)"},
    "heights.least": {"rising_ring": "(system)", "least_heights": "(system)"},
    "heights.best": {"best_heights": "(system)"},
    "heights.trees": {"link_system": "(count, links)", "tree_heights": "(count, links)",
                      "cut_value": "(count, links, tree, link)", "check_tree": "(count, links, heights, tree)"},
    "heights.ranks": {"rank_links": "(graph)", "ranks": "(graph)"},
    "net.build": {"net_of": "(graph, *, name='')"},
    "graph.plain": {"plain_statements": "(graph)", "plain_text": "(graph)"},
    "graph.alike": {"alike": "(one, other)", "needless_lines": "(text)"},
    "arrange.bounds": {"pair_bound": "(costs)", "cheap_ring": "(costs)"},
    "heights.certificate": {"certificate": "(system)", "check_forces": "(system, heights, forces)",
                            "check_reasons": "(system, heights, forces, reasons)"},
    "heights.lifts": {"better_lift": "(system, heights)"},
    "net.walkers": {"steps_from": "(net, pair)", "is_walk": "(net, walk)", "is_exchange": "(net, walk)",
                    "tied": "(net, first, second)"},
    "net.exchange": {"find_exchange": "(net)"},
    "net.strips": {"filled": "(net)", "uncrossed_orders": "(net)"},
    "net.apart": {"all_apart": "(walks)", "apart_exchanges": "(net)"},
    "orders.crossings": {"crossings": "(net, orders)", "crossing_pairs": "(net, orders)",
                         "crossing_steps": "(orders, walk)"},
    "orders.sorting": {"crossings_by_sorting": "(net, orders)"},
    "orders.medians": {"median_order": "(net, orders, level)", "start_orders": "(net)"},
    "orders.rest": {"level_costs": "(net, orders, level)", "at_rest": "(net, orders)", "settled": "(net, orders)"},
    "orders.chosen": {"chosen_orders": "(net)"},
    "whole.plan": {"plan_of": "(graph, *, name='')"},
    "places.sizes": {"box_sizes": "(graph, plan, inner)", "note_of": "(graph, plan, place)"},
    "places.offsets": {"offsets": "(graph, plan, inner)"},
    "places.system": {"place_system": "(graph, plan, inner)"},
}


class InterfaceTest(unittest.TestCase):
    def test_each_name_is_defined_where_it_is_listed(self):
        for name, listed in INTERFACE.items():
            module = importlib.import_module("drawnlayers." + name)
            tree = ast.parse(pathlib.Path(module.__file__).read_text())
            defined = {node.name for node in tree.body if isinstance(node, (ast.FunctionDef, ast.ClassDef))}
            for word, signature in listed.items():
                with self.subTest(module=name, name=word):
                    self.assertIn(word, defined)
                    self.assertEqual(str(inspect.signature(getattr(module, word))), signature)

    def test_a_dict_that_is_checked_stays_as_it_was(self):
        least = importlib.import_module("drawnlayers.arrange.least")
        costs = importlib.import_module("drawnlayers.arrange.costs").Costs(3)
        table = {(): 0, (0,): 1, (2, 1): 7}
        before = copy.deepcopy(table)
        least.check_table(costs, table)
        self.assertEqual(table, before)
        self.assertEqual(costs.rows(), ((0, 0, 0),) * 3)


if __name__ == "__main__":
    unittest.main()

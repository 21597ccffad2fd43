"""The names of the interface stand in the files under which it lists them, and arguments are never changed."""

import ast
import copy
import importlib
import inspect
import pathlib
import unittest

INTERFACE = {
    "base.rings": {"find_ring": "(count, arcs)"},
    "text.words": {"is_name": "(word)", "is_label": "(word, *, plain=False)", "initial_values": "(kind)",
                   "is_value": "(kind, key, value)"},
    "text.lines": {"write_line": "(statement)", "read_line": "(line)"},
    "text.texts": {"write_text": "(statements)", "read_text": "(text)"},
    "text.making": {"node_line": "(name, **options)", "lot_line": "(name, **options)",
                    "edge_line": "(*names, **options)", "nodes_line": "(**options)", "edges_line": "(**options)",
                    "graph_line": "(**options)", "same_line": "(*names)"},
    "graph.graphs": {"class_list": "(graph)", "walk_graphs": "(graph)", "graph_named": "(graph, name)",
                     "shown_label": "(item)", "is_sound": "(graph)"},
    "graph.build": {"build_graph": "(statements)"},
    "graph.origins": {"origins": "(statements)"},
    "arrange.costs": {"Costs": "(size)"},
    "arrange.least": {"order_price": "(costs, order)", "least_order": "(costs)", "subset_table": "(costs)",
                      "check_table": "(costs, table)"},
    "arrange.turning": {"turning_costs": "(graph)", "turning_order": "(graph)", "turned_edges": "(graph)",
                        "closing_ring": "(graph, edge)"},
    "heights.system": {"keeps": "(system, heights)", "cost": "(system, heights)", "is_balanced": "(system, forces)",
                       "worth": "(system, forces)"},
    "heights.least": {"rising_ring": "(system)", "least_heights": "(system)"},
    "heights.best": {"best_heights": "(system)"},
    "heights.trees": {"link_system": "(count, links)", "tree_heights": "(count, links)",
                      "cut_value": "(count, links, tree, link)", "check_tree": "(count, links, heights, tree)"},
    "heights.ranks": {"rank_links": "(graph)", "ranks": "(graph)"},
    "net.build": {"net_of": "(graph, *, name='')"},
    "graph.plain": {"plain_statements": "(graph)", "plain_text": "(graph)"},
    "graph.alike": {"alike": "(one, other)", "needless_lines": "(text)"},
    "arrange.bounds": {"pair_bound": "(costs)", "cheap_ring": "(costs)"},
    "heights.certificate": {"certificate": "(system)", "check_forces": "(system, heights, forces)",
                            "check_reasons": "(system, heights, forces, reasons)"},
    "heights.lifts": {"better_lift": "(system, heights)"},
    "net.walkers": {"steps_from": "(net, pair)", "is_walk": "(net, walk)", "is_exchange": "(net, walk)",
                    "tied": "(net, first, second)"},
    "net.exchange": {"find_exchange": "(net)"},
    "net.strips": {"filled": "(net)", "uncrossed_orders": "(net)"},
    "net.apart": {"all_apart": "(walks)", "apart_exchanges": "(net)"},
    "orders.crossings": {"crossings": "(net, orders)", "crossing_pairs": "(net, orders)",
                         "crossing_steps": "(orders, walk)"},
    "orders.sorting": {"crossings_by_sorting": "(net, orders)"},
    "orders.medians": {"median_order": "(net, orders, level)", "start_orders": "(net)"},
    "orders.rest": {"level_costs": "(net, orders, level)", "at_rest": "(net, orders)", "settled": "(net, orders)"},
    "orders.chosen": {"chosen_orders": "(net)"},
    "whole.plan": {"plan_of": "(graph, *, name='')"},
    "places.sizes": {"box_sizes": "(graph, plan, inner)", "note_of": "(graph, plan, place)"},
    "places.offsets": {"offsets": "(graph, plan, inner)"},
    "places.system": {"place_system": "(graph, plan, inner)"},
    "places.layout": {"layout_of": "(graph, plan, inner)"},
    "ways.spans": {"Span": "(low, high)", "common": "(*spans)"},
    "ways.slots": {"slot_of": "(graph, plan, layout, place)"},
    "ways.runs": {"runs": "(chain)", "way": "(chain)", "bends": "(stops)", "blocking_pairs": "(chain)",
                  "check_way": "(chain, stops, pairs)"},
    "ways.ratios": {"Ratio": "(top, bottom=1)"},
    "ways.leads": {"Lead": "(x0, x1)"},
    "ink.marks": {"is_mark": "(mark)", "begin_of": "(mark)", "end_of": "(mark)", "moved_mark": "(mark, dx, dy)",
                  "write_mark": "(mark)", "read_mark": "(line)"},
    "ink.ink": {"Ink": "(marks)", "joined": "(*inks)"},
    "ink.follow": {"follow": "(ink, x, y)"},
    "ink.reading": {"read_back": "(ink)"},
    "ink.meeting": {"crossings_of": "(ink)"},
    "ink.score": {"Score": "(crossings, bends, moves)", "score_of": "(ink)"},
    "ink.listing": {"Listing": "(boxes)", "NumberedListing": "(boxes)", "TitledListing": "(boxes)", "FullListing": "(boxes)"},
    "whole.inking": {"graph_marks": "(graph, plan, layout, origin)"},
    "whole.picture": {"Picture": "(graph)", "draw": "(text)"},
    "desk.edits": {"apply_edit": "(lines, edit)", "inverse_edit": "(lines, edit)"},
    "desk.deeds": {"write_deed": "(deed)", "read_deed": "(line)"},
    "desk.desk": {"Desk": "(text='')"},
    "desk.script": {"run_script": "(desk, script)"},
}

# What the body of each class itself defines.
METHODS = {
    ("arrange.costs", "Costs"): "__getitem__ __setitem__ __add__ __iadd__ put rows of",
    ("ways.spans", "Span"): "__and__ __or__ __add__ __radd__ __sub__ __rshift__ __lshift__ __neg__ __abs__ __contains__ many "
                            "nearest at",
    ("ways.ratios", "Ratio"): "__add__ __radd__ __sub__ __rsub__ __mul__ __rmul__ __floordiv__ __mod__ __pow__ __neg__ __abs__ "
                              "below same written",
    ("ways.leads", "Lead"): "__call__ meeting",
    ("ink.ink", "Ink"): "__len__ __contains__ __iter__ __add__ __and__ __sub__ marks moved written read",
    ("ink.score", "Score"): "__add__ __lt__ __eq__",
    ("ink.listing", "Listing"): "rows",
    ("ink.listing", "NumberedListing"): "rows",
    ("ink.listing", "TitledListing"): "rows",
    ("ink.listing", "FullListing"): "rows",
    ("whole.picture", "Picture"): "graph ink width height score plan layout origin boxes",
    ("desk.desk", "Desk"): "do undo redo change history would tried text lines picture ink steps undone redrawn __enter__ __exit__",
}
PROPERTIES = {
    ("ink.ink", "Ink"): "marks",
    ("whole.picture", "Picture"): "graph ink width height score",
    ("desk.desk", "Desk"): "text lines picture ink steps undone redrawn",
}


class InterfaceTest(unittest.TestCase):
    def test_each_name_is_defined_where_it_is_listed(self):
        for name, listed in INTERFACE.items():
            module = importlib.import_module("drawnlayers." + name)
            tree = ast.parse(pathlib.Path(module.__file__).read_text())
            defined = {node.name for node in tree.body if isinstance(node, (ast.FunctionDef, ast.ClassDef))}
            for word, signature in listed.items():
                with self.subTest(module=name, name=word):
                    self.assertIn(word, defined)
                    self.assertEqual(str(inspect.signature(getattr(module, word))), signature)

    def test_each_class_defines_its_methods_itself(self):
        for (name, word), methods in METHODS.items():
            own = vars(getattr(importlib.import_module("drawnlayers." + name), word))
            for method in methods.split():
                with self.subTest(name=word, method=method):
                    self.assertIn(method, own)

    def test_kinds_of_methods(self):
        spans, ink = (importlib.import_module("drawnlayers." + name) for name in ("ways.spans", "ink.ink"))
        costs = importlib.import_module("drawnlayers.arrange.costs")
        self.assertIsInstance(vars(costs.Costs)["of"], staticmethod)
        self.assertIsInstance(vars(spans.Span)["at"], staticmethod)
        self.assertIsInstance(vars(ink.Ink)["read"], classmethod)
        for (name, word), listed in PROPERTIES.items():
            for method in listed.split():
                found = vars(getattr(importlib.import_module("drawnlayers." + name), word))[method]
                self.assertIsInstance(found, property, method)
                self.assertEqual(found.fset is not None, method == "text")
        self.assertTrue(inspect.isgeneratorfunction(importlib.import_module("drawnlayers.ink.follow").follow))

    def test_a_dict_that_is_checked_stays_as_it_was(self):
        least = importlib.import_module("drawnlayers.arrange.least")
        costs = importlib.import_module("drawnlayers.arrange.costs").Costs(3)
        table = {(): 0, (0,): 1, (2, 1): 7}
        before = copy.deepcopy(table)
        least.check_table(costs, table)
        self.assertEqual(table, before)
        self.assertEqual(costs.rows(), ((0, 0, 0),) * 3)


if __name__ == "__main__":
    unittest.main()

"""Points 10, 11 and 15."""

import unittest

from drawnlayers.errors import NoGraph
from drawnlayers.graph.graphs import class_list, class_numbers, graph_named, is_sound, shown_label, walk_graphs
from helpers import graph_of, random_graphs

SETTINGS = (2, 4, 2)


def node(name, label="$", width=1, height=1, inner=None):
    return (name, label, width, height, inner)


def edge(tail, head, label="", weight=1, span=1, price=1, firm=False):
    return (tail, head, label, weight, span, price, firm)


def graph(items=(), classes=(), edges=(), settings=SETTINGS):
    return (settings, tuple(items), tuple(classes), tuple(edges))


def names(prefix, many):
    return [prefix + "abcdefghijklmnop"[at] for at in range(many)]


def nodes(many, prefix=""):
    return [node(name) for name in names(prefix, many)]


def chain_of_lots(depth):
    """A graph whose deepest graph has this depth."""
    found = graph()
    for at in range(depth):
        found = graph([node("xyzuvw"[at], inner=found)])
    return found


class GraphsTest(unittest.TestCase):
    def test_class_lists(self):
        self.assertEqual(class_list(graph()), ())
        self.assertEqual(class_list(graph(nodes(3))), ((0,), (1,), (2,)))
        self.assertEqual(class_list(graph(nodes(5), ((1, 4), (2, 3)))), ((0,), (1, 4), (2, 3)))
        self.assertEqual(class_list(graph(nodes(4), ((0, 3),))), ((0, 3), (1,), (2,)))
        self.assertEqual(class_list(graph(nodes(3), ((0, 1, 2),))), ((0, 1, 2),))

    def test_class_numbers(self):
        self.assertEqual(class_numbers(graph(nodes(5), ((1, 4), (2, 3)))), (0, 1, 2, 2, 1))
        self.assertEqual(class_numbers(graph()), ())

    def test_the_walk_through_lots_in_lots(self):
        deep = graph([node("k")])
        second = graph([node("j", inner=deep), node("m")])
        third = graph([node("n")], settings=(1, 2, 3))
        root = graph([node("a"), node("b", inner=second), node("c"), node("d", inner=third)])
        found = list(walk_graphs(root))
        self.assertEqual(found, [("", root), ("b", second), ("j", deep), ("d", third)])
        self.assertEqual(list(walk_graphs(third)), [("", third)])
        for name, one in found:
            self.assertEqual(graph_named(root, name), one)
        for name in ("a", "m", "n", "zz", "k"):
            with self.assertRaises(NoGraph) as caught:
                graph_named(root, name)
            self.assertEqual(caught.exception.name, name)
        with self.assertRaises(NoGraph):
            graph_named(second, "b")

    def test_the_walk_is_a_generator(self):
        walk = walk_graphs(graph())
        self.assertEqual(next(walk), ("", graph()))
        with self.assertRaises(StopIteration):
            next(walk)

    def test_shown_labels(self):
        self.assertEqual(shown_label(node("ab")), "ab")
        self.assertEqual(shown_label(node("ab", "")), "")
        self.assertEqual(shown_label(node("ab", "x")), "x")
        self.assertEqual(shown_label(node("ab", "$$.$")), "abab.ab")
        self.assertEqual(shown_label(node("abcdef", "$$$$$$")), "abcdef" * 6)
        self.assertEqual(shown_label(node("a", "x$y", inner=graph())), "xay")


class SoundTest(unittest.TestCase):
    def yes(self, one):
        self.assertIs(is_sound(one), True)

    def no(self, one):
        self.assertIs(is_sound(one), False)

    def test_small_graphs(self):
        self.yes(graph())
        self.yes(graph(nodes(2), (), [edge(0, 1), edge(0, 1), edge(1, 0), edge(0, 0)]))
        for one in random_graphs(60, seed=11):
            self.yes(one)

    def test_names(self):
        self.no(graph([node("a"), node("a")]))
        self.no(graph([node("a"), node("b", inner=graph([node("a")]))]))
        self.no(graph([node("b", inner=graph([node("b")]))]))
        self.no(graph([node("a", inner=graph([node("c")])), node("b", inner=graph([node("c")]))]))
        self.yes(graph([node("a", inner=graph([node("c")])), node("b", inner=graph([node("d")]))]))

    def test_items_of_one_graph(self):
        self.yes(graph(nodes(8)))
        self.no(graph(nodes(9)))
        self.no(graph(nodes(12)))
        self.yes(graph([node("z", inner=graph(nodes(8)))]))
        self.no(graph([node("z", inner=graph(nodes(9)))]))

    def test_edges_of_one_graph(self):
        self.yes(graph(nodes(2), (), [edge(0, 1)] * 12))
        self.no(graph(nodes(2), (), [edge(0, 1)] * 13))
        self.no(graph(nodes(1), (), [edge(0, 0)] * 16))
        self.no(graph([node("z", inner=graph(nodes(2), (), [edge(0, 1)] * 13))]))

    def test_items_of_all_graphs(self):
        def with_many(many):
            return graph([node("x", inner=graph(nodes(8, "p"))), node("y", inner=graph(nodes(8, "q")))]
                         + nodes(many, "r"))
        self.yes(with_many(2))
        self.no(with_many(3))

    def test_edges_of_all_graphs(self):
        def with_many(many):
            first = graph(nodes(2, "p"), (), [edge(0, 1)] * 12)
            second = graph(nodes(2, "q"), (), [edge(0, 1)] * 12)
            return graph([node("x", inner=first), node("y", inner=second)], (), [edge(1, 0)] * many)
        self.yes(with_many(6))
        self.no(with_many(7))

    def test_lots(self):
        def with_lots(many):
            return graph([node(name, inner=graph()) for name in names("", many)])
        self.yes(with_lots(6))
        self.no(with_lots(7))
        self.no(with_lots(8))

    def test_lots_in_lots_count(self):
        inside = graph([node(name, inner=graph()) for name in names("p", 3)])
        self.yes(graph([node("a", inner=inside), node("b", inner=graph()), node("c", inner=graph())]))
        self.no(graph([node("a", inner=inside)] + [node(name, inner=graph()) for name in "bcd"]))

    def test_depth(self):
        for depth in (0, 1, 2, 3):
            self.yes(chain_of_lots(depth))
        for depth in (4, 5):
            self.no(chain_of_lots(depth))

    def test_loops_with_labels(self):
        self.yes(graph(nodes(1), (), [edge(0, 0, firm=True)]))
        self.no(graph(nodes(1), (), [edge(0, 0, "x")]))
        self.no(graph([node("z", inner=graph(nodes(1), (), [edge(0, 0, "x")]))]))
        self.yes(graph(nodes(2), (), [edge(0, 1, "x")]))

    def test_flat_edges(self):
        self.no(graph(nodes(2), ((0, 1),), [edge(0, 1)]))
        self.no(graph(nodes(3), ((0, 2),), [edge(0, 1), edge(2, 0)]))
        self.yes(graph(nodes(3), ((0, 2),), [edge(0, 1), edge(2, 1), edge(0, 0), edge(2, 2)]))
        self.no(graph([node("z", inner=graph(nodes(2), ((0, 1),), [edge(0, 1)]))]))

    def test_firm_rings(self):
        two = [edge(0, 1, firm=True), edge(1, 0, firm=True)]
        self.no(graph(nodes(2), (), two))
        self.yes(graph(nodes(2), (), [two[0], edge(1, 0)]))
        self.yes(graph(nodes(2), (), [two[0], two[0]]))
        three = [edge(0, 1, firm=True), edge(1, 2, firm=True)]
        self.yes(graph(nodes(3), (), three + [edge(0, 2, firm=True)]))
        self.no(graph(nodes(3), (), three + [edge(2, 0, firm=True)]))
        self.no(graph([node("z", inner=graph(nodes(2), (), two))]))

    def test_firm_rings_through_classes(self):
        edges = [edge(0, 1, firm=True), edge(2, 3, firm=True)]
        self.yes(graph(nodes(4), (), edges))
        self.yes(graph(nodes(4), ((1, 2),), edges))
        self.no(graph(nodes(4), ((0, 3), (1, 2)), edges))
        self.no(graph(nodes(4), ((0, 3),), edges + [edge(1, 2, firm=True)]))
        self.yes(graph(nodes(4), ((0, 3),), edges + [edge(1, 2)]))

    def test_inner_graphs_of_sound_graphs(self):
        root = graph_of("lot a", "edge b c", "lot d", "node e", "end", "end", "edge a f")
        for _, one in walk_graphs(root):
            self.yes(one)

    def test_values_out_of_range(self):
        self.no(graph(settings=(0, 4, 2)))
        self.no(graph([node("a", width=31)]))
        self.no(graph(nodes(2), (), [edge(0, 1, weight=10)]))


if __name__ == "__main__":
    unittest.main()

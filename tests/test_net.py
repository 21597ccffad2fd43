"""Points 42 and 43."""

import unittest

from drawnlayers.arrange.turning import turned_edges
from drawnlayers.errors import TooWide
from drawnlayers.heights.ranks import ranks
from drawnlayers.net.build import net_of
from helpers import graph_of, random_graphs


def net_by_words(graph):
    """The net of a graph, straight from point 43, however large it is."""
    rank = ranks(graph)
    turned = turned_edges(graph)
    places = [("item", item) for item in range(len(graph[1]))]
    levels = list(rank)
    ends = {}
    for number, edge in enumerate(graph[3]):
        if edge[0] == edge[1]:
            continue
        ends[number] = (edge[1], edge[0]) if number in turned else (edge[0], edge[1])
        for level in range(rank[ends[number][0]] + 1, rank[ends[number][1]]):
            places.append(("station", number, level))
            levels.append(level)
    segments, carriers = [], []
    for number, (upper, lower) in ends.items():
        row = [upper] + [at for at, place in enumerate(places) if place[:2] == ("station", number)] + [lower]
        for pair in zip(row, row[1:]):
            segments.append(pair)
            carriers.append(number)
    return (tuple(levels), tuple(segments), tuple(places), tuple(carriers))


def is_wide(levels):
    return len(levels) > 36 or any(levels.count(level) > 7 for level in levels)


class NetTest(unittest.TestCase):
    def test_the_example(self):
        levels, segments, owners, carriers = net_of(graph_of("edge a b span=2", "edge a b"))
        self.assertEqual(levels, (0, 2, 1, 1))
        self.assertEqual(segments, ((0, 2), (2, 1), (0, 3), (3, 1)))
        self.assertEqual(owners, (("item", 0), ("item", 1), ("station", 0, 1), ("station", 1, 1)))
        self.assertEqual(carriers, (0, 0, 1, 1))

    def test_no_items(self):
        self.assertEqual(net_of(graph_of()), ((), (), (), ()))
        self.assertEqual(net_of(graph_of("node a", "edge a a")), ((0,), (), (("item", 0),), ()))

    def test_stations_in_their_order(self):
        levels, segments, owners, carriers = net_of(graph_of("edge a b span=3", "edge c c", "edge a d label=x", "edge a b"))
        self.assertEqual(levels, (0, 3, 0, 2, 1, 2, 1, 1, 2))
        self.assertEqual(owners[4:], (("station", 0, 1), ("station", 0, 2), ("station", 2, 1), ("station", 3, 1),
                                      ("station", 3, 2)))
        self.assertEqual(segments, ((0, 4), (4, 5), (5, 1), (0, 6), (6, 3), (0, 7), (7, 8), (8, 1)))
        self.assertEqual(carriers, (0, 0, 0, 2, 2, 3, 3, 3))

    def test_turned_edges_run_from_their_head(self):
        levels, segments, owners, carriers = net_of(graph_of("edge a b price=1", "edge b c a price=3"))
        self.assertEqual(levels, (2, 0, 1, 1))
        self.assertEqual(segments, ((1, 3), (3, 0), (1, 2), (2, 0)))
        self.assertEqual(owners[3], ("station", 0, 1))
        self.assertEqual(carriers, (0, 0, 1, 2))

    def test_several_edges_between_the_same_items(self):
        self.assertEqual(net_of(graph_of("edge a b", "edge a b", "edge b a"))[1], ((0, 1), (0, 1), (0, 1)))

    def test_lots_are_items_like_others(self):
        net = net_of(graph_of("lot a", "edge x y z", "end", "edge a b"))
        self.assertEqual(net, ((0, 1), ((0, 1),), (("item", 0), ("item", 1)), (0,)))

    def test_seven_and_eight_places_on_a_level(self):
        seven = graph_of("edge z a", "edge z b", "edge z c", "edge z d", "edge z e", "edge z f", "edge z g")
        self.assertEqual(net_of(seven)[0].count(1), 7)
        loose = graph_of(*["node " + name for name in "abcdefg"])
        self.assertEqual(net_of(loose, name="q")[0], (0,) * 7)
        for graph in (
            graph_of(*["node " + name for name in "abcdefgh"]),
            graph_of(*["edge a b span=2"] * 8),
            graph_of(*["edge a b label=x"] * 7, "edge a c b"),
        ):
            with self.assertRaises(TooWide) as caught:
                net_of(graph)
            self.assertEqual(caught.exception.name, "")
            with self.assertRaises(TooWide) as caught:
                net_of(graph, name="lot")
            self.assertEqual(caught.exception.name, "lot")
        self.assertEqual(net_of(graph_of(*["edge a b label=x"] * 7))[0].count(1), 7)

    def test_thirty_six_and_thirty_seven_places(self):
        graph = graph_of("edge a b c d span=4", "edge a d", "edge a d", "node e")
        self.assertEqual(len(net_of(graph)[0]), 5 + 9 + 22)
        for more in ("node f", "edge a c span=4 weight=1"):
            wide = graph_of("edge a b c d span=4", "edge a d", "edge a d", "node e", more)
            with self.assertRaises(TooWide) as caught:
                net_of(wide, name="abc")
            self.assertEqual(caught.exception.name, "abc")

    def test_random_graphs(self):
        wide = 0
        for graph in random_graphs(200, seed=43):
            wanted = net_by_words(graph)
            if is_wide(wanted[0]):
                wide += 1
                with self.assertRaises(TooWide):
                    net_of(graph)
                continue
            self.assertEqual(net_of(graph), wanted)
            levels, segments = wanted[:2]
            self.assertEqual(set(levels), set(range(max(levels, default=-1) + 1)))
            for upper, lower in segments:
                self.assertEqual(levels[lower], levels[upper] + 1)
        self.assertGreater(wide, 5)
        self.assertLess(wide, 150)

    def test_only_what_point_85_names_matters(self):
        first = graph_of("edge a b label=x", "edge b c a price=3")
        second = graph_of("graph down=9", "node a width=9 label=q", "lot b", "edge d e", "end", "lot c height=3", "end",
                          "edge a b label=other", "edge b c a price=3")
        self.assertEqual(net_of(first), net_of(second))


if __name__ == "__main__":
    unittest.main()

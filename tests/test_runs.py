"""Points 67 to 69, and the example of point 71."""

import itertools
import random
import unittest

from drawnlayers.ways.runs import bends, blocking_pairs, check_way, runs, way
from drawnlayers.ways.spans import Span

EXAMPLE = ((4, 4), (0, 6), (5, 9), (7, 7), (2, 2))


def chain_of(*pairs):
    return tuple(Span(low, high) for low, high in pairs)


def numbers_of(pair):
    return set(range(pair[0], pair[1] + 1))


def shared_numbers(pairs):
    return set.intersection(*[numbers_of(pair) for pair in pairs])


def runs_by_words(pairs):
    """The first sentence of point 68."""
    found = []
    at = 0
    while at < len(pairs):
        end = max(end for end in range(at, len(pairs)) if shared_numbers(pairs[at:end + 1]))
        found.append((at, end))
        at = end + 1
    return found


def way_by_words(pairs):
    stops = []
    for first, last in runs_by_words(pairs):
        shared = shared_numbers(pairs[first:last + 1])
        stop = min(shared, key=lambda number: abs(number - stops[-1])) if stops else min(shared)
        stops.extend([stop] * (last + 1 - first))
    return tuple(stops)


def fewest_bends(pairs):
    """The fewest bends of any stops, found number by number."""
    best = {number: 0 for number in numbers_of(pairs[0])}
    for pair in pairs[1:]:
        least = min(best.values())
        best = {number: min(best.get(number, least + 1), least + 1) for number in numbers_of(pair)}
    return min(best.values())


def random_chain(source, most):
    width = source.choice((0, 2, 5, 12))
    rows = []
    for _ in range(source.randint(1, most)):
        low = source.randint(-9, 9)
        rows.append((low, low + source.randint(0, width)))
    return tuple(rows)


class RunsTest(unittest.TestCase):
    def assert_chain(self, pairs):
        chain = chain_of(*pairs)
        self.assertEqual(runs(chain), runs_by_words(pairs))
        stops = way(chain)
        self.assertEqual(stops, way_by_words(pairs))
        self.assertEqual(bends(stops), len(runs(chain)) - 1)
        self.assertEqual(bends(stops), fewest_bends(pairs))
        blocking = blocking_pairs(chain)
        self.assertIs(type(blocking), tuple)
        self.assertEqual(len(blocking), bends(stops))
        self.assert_blocking(pairs, blocking)
        self.assertIs(check_way(chain, stops, blocking), True)
        self.assertEqual([(span.low, span.high) for span in chain], list(pairs))

    def assert_blocking(self, pairs, blocking):
        before = 0
        for i, k in blocking:
            self.assertTrue(before <= i < k < len(pairs))
            self.assertFalse(numbers_of(pairs[i]) & numbers_of(pairs[k]))
            before = k

    def test_the_example(self):
        chain = chain_of(*EXAMPLE)
        self.assertEqual(runs(chain), [(0, 1), (2, 3), (4, 4)])
        self.assertEqual(way(chain), (4, 4, 7, 7, 2))
        self.assertEqual(bends(way(chain)), 2)
        self.assertIs(check_way(chain, (4, 4, 7, 7, 2), ((0, 2), (3, 4))), True)
        self.assert_chain(EXAMPLE)

    def test_one_span(self):
        self.assert_chain(((3, 9),))
        self.assertEqual(way(chain_of((3, 9))), (3,))
        self.assertEqual(blocking_pairs(chain_of((3, 9))), ())

    def test_the_second_run_goes_as_near_as_it_can(self):
        self.assertEqual(way(chain_of((0, 3), (9, 20), (8, 15))), (0, 9, 9))
        self.assertEqual(way(chain_of((30, 33), (9, 20), (8, 15))), (30, 15, 15))
        self.assertEqual(way(chain_of((5, 5), (7, 9), (4, 6), (0, 20))), (5, 7, 6, 6))

    def test_all_chains_of_few_small_spans(self):
        small = [(low, high) for low in range(4) for high in range(low, 4)]
        for many in (1, 2, 3, 4):
            for pairs in itertools.product(small, repeat=many):
                self.assert_chain(pairs)

    def test_no_stops_bend_less(self):
        source = random.Random(67)
        for _ in range(60):
            pairs = random_chain(source, 4)
            least = min(bends(stops) for stops in itertools.product(*[sorted(numbers_of(pair)) for pair in pairs]))
            self.assertEqual(bends(way(chain_of(*pairs))), least)

    def test_long_chains(self):
        source = random.Random(68)
        for _ in range(300):
            self.assert_chain(random_chain(source, 40))
        self.assert_chain(((0, 0), (1, 1)) * 20)
        self.assert_chain(((0, 9),) * 40)

    def test_far_spans(self):
        far = 10 ** 9
        chain = chain_of((-far, -far), (-far, far), (far, far), (-far, 0))
        self.assertEqual(way(chain), (-far, -far, far, 0))
        self.assertEqual(runs(chain), [(0, 1), (2, 2), (3, 3)])

    def test_bends(self):
        self.assertEqual([bends(()), bends((5,)), bends((5, 5)), bends((5, 6)), bends((1, 2, 1, 1, 2))], [0, 0, 0, 1, 3])
        self.assertEqual(bends((-10 ** 39, 10 ** 39, 10 ** 39)), 1)

    def test_a_new_list_each_time(self):
        chain = chain_of(*EXAMPLE)
        runs(chain).clear()
        self.assertEqual(runs(chain), [(0, 1), (2, 3), (4, 4)])


class CheckWayTest(unittest.TestCase):
    def assert_check(self, expected, stops, pairs, rows=EXAMPLE):
        self.assertIs(check_way(chain_of(*rows), stops, pairs), expected, (stops, pairs))

    def test_stops_outside_of_their_spans(self):
        good = (4, 4, 7, 7, 2)
        blocking = ((0, 2), (3, 4))
        self.assert_check(True, good, blocking)
        for at in range(5):
            for stop in (EXAMPLE[at][0] - 1, EXAMPLE[at][1] + 1, 10 ** 39, -10 ** 39):
                self.assert_check(False, good[:at] + (stop,) + good[at + 1:], blocking)

    def test_other_stops_with_as_few_bends(self):
        self.assert_check(True, (4, 5, 5), ((0, 2),), EXAMPLE[:3])
        self.assert_check(True, (4, 4, 9), ((0, 2),), EXAMPLE[:3])

    def test_stops_with_more_bends(self):
        for stops in ((4, 5, 7, 7, 2), (4, 4, 5, 7, 2), (4, 0, 5, 7, 2)):
            for pairs in (((0, 2), (3, 4)), ((0, 2),), ((0, 2), (2, 3), (3, 4)), ((0, 2), (3, 4), (3, 4))):
                self.assert_check(False, stops, pairs)

    def test_pairs_that_are_wrong_in_one_place(self):
        good = (4, 4, 7, 7, 2)
        for pairs in (
            ((0, 2), (4, 4)), ((0, 0), (3, 4)), ((2, 2), (3, 4)),
            ((0, 2), (3, 5)), ((-1, 2), (3, 4)), ((0, 2), (-2, 4)), ((0, 2), (3, -1)), ((0, 10 ** 39), (3, 4)),
            ((0, 1), (3, 4)), ((1, 2), (3, 4)), ((0, 2), (2, 3)),
            ((2, 0), (3, 4)), ((0, 2), (4, 3)),
            ((3, 4), (0, 2)), ((0, 3), (2, 4)), ((0, 4), (3, 4)),
            (), ((0, 2),), ((3, 4),), ((0, 2), (3, 4), (3, 4)), ((0, 2), (0, 2), (3, 4)),
        ):
            self.assert_check(False, good, pairs)

    def test_pairs_that_are_right(self):
        for pairs in (((0, 2), (2, 4)), ((0, 3), (3, 4)), ((0, 2), (3, 4))):
            self.assert_check(True, (4, 4, 7, 7, 2), pairs)

    def test_against_the_words(self):
        source = random.Random(69)
        found = {True: 0, False: 0}
        for _ in range(4000):
            rows = random_chain(source, 4)
            stops = tuple(source.choice(sorted(numbers_of(row))) if source.random() < 0.95 else row[0] - 1 for row in rows)
            if source.random() < 0.5:
                stops = way_by_words(rows)
            many = bends(stops) if source.random() < 0.8 else source.randint(0, 3)
            pairs = tuple((source.randint(-1, 3), source.randint(0, 4)) for _ in range(many))
            good = all(stop in numbers_of(row) for stop, row in zip(stops, rows))
            good = good and all(0 <= i < k < len(rows) and not numbers_of(rows[i]) & numbers_of(rows[k]) for i, k in pairs)
            good = good and all(later[0] >= before[1] for before, later in zip(pairs, pairs[1:]))
            good = good and len(pairs) == sum(one != other for one, other in zip(stops, stops[1:]))
            self.assert_check(good, stops, pairs, rows)
            found[good] += 1
        self.assertGreater(min(found.values()), 100)


if __name__ == "__main__":
    unittest.main()

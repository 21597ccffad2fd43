"""Points 70 and 78, and the number of crossings of point 86."""

import random
import unittest
from fractions import Fraction

from drawnlayers.graph.graphs import walk_graphs
from drawnlayers.ink.ink import Ink
from drawnlayers.ink.meeting import crossings_of
from drawnlayers.net.apart import apart_exchanges
from drawnlayers.net.walkers import is_exchange
from drawnlayers.orders.crossings import crossing_steps
from drawnlayers.ways.ratios import Ratio
from helpers import many_pictures

FAR = 999999


def plain(crossing):
    """A crossing with fractions of Python's own."""
    first, second, share, x = crossing
    return (first, second, Fraction(share.top, share.bottom), Fraction(x.top, x.bottom))


def meeting_by_words(one, other):
    """Where two curves, or a curve and a line, meet; a line goes from its x to its x."""
    (x0, x1), (y0, y1) = [(mark[1], mark[3] if mark[0] == "curve" else mark[1]) for mark in (one, other)]
    if not (x0 < y0 and x1 > y1 or x0 > y0 and x1 < y1):
        return None
    share = Fraction(y0 - x0, (x1 - x0) - (y1 - y0))
    return (share, x0 + (x1 - x0) * share)


def crossings_by_words(ink):
    """Point 78, straight."""
    found = []
    marks = list(ink)
    for at, first in enumerate(marks):
        for second in marks[at + 1:]:
            kinds = (first[0], second[0])
            if kinds == ("curve", "curve"):
                fits = first[2] == second[2] and first[4] == second[4]
            else:
                fits = kinds == ("curve", "line") and second[2] <= first[2] and second[3] >= first[4]
            meeting = meeting_by_words(first, second) if fits else None
            if meeting is not None:
                found.append((first, second, *meeting))
    return found


class MeetingTest(unittest.TestCase):
    def assert_crossings(self, marks, expected):
        found = crossings_of(Ink(marks))
        self.assertIs(type(found), list)
        for crossing in found:
            self.assertIs(type(crossing), tuple)
            self.assertEqual((type(crossing[2]), type(crossing[3])), (Ratio, Ratio))
        self.assertEqual([plain(crossing) for crossing in found], expected)

    def test_two_curves(self):
        one, other = ("curve", 0, 5, 4, 9), ("curve", 1, 5, 0, 9)
        self.assert_crossings([one, other], [(one, other, Fraction(1, 5), Fraction(4, 5))])
        one, other = ("curve", -2, 0, 6, 1), ("curve", 6, 0, -2, 1)
        self.assert_crossings([other, one], [(one, other, Fraction(1, 2), 2)])

    def test_curves_of_other_heights(self):
        one = ("curve", 0, 5, 4, 9)
        for other in (("curve", 1, 4, 0, 9), ("curve", 1, 5, 0, 8), ("curve", 1, 6, 0, 9), ("curve", 1, 5, 0, 10), ("curve", 1, 9, 0, 13)):
            self.assert_crossings([one, other], [])

    def test_curves_that_do_not_meet(self):
        one = ("curve", 0, 5, 4, 9)
        for x0, x1 in ((1, 5), (0, 3), (0, -1), (3, 4), (-1, 4), (-3, -9), (7, 5)):
            self.assert_crossings([one, ("curve", x0, 5, x1, 9)], [])

    def test_a_curve_and_a_line(self):
        curve = ("curve", 2, 5, 12, 9)
        for line in (("line", 5, 5, 9), ("line", 5, 4, 9), ("line", 5, 5, 10), ("line", 5, -FAR, FAR)):
            self.assert_crossings([curve, line], [(curve, line, Fraction(3, 10), 5)])
        for line in (("line", 5, 6, 9), ("line", 5, 5, 8), ("line", 5, 6, 8), ("line", 5, 9, 13), ("line", 5, 0, 5), ("line", 2, 0, 20),
                     ("line", 12, 0, 20), ("line", 1, 0, 20), ("line", 13, 0, 20)):
            self.assert_crossings([curve, line], [])
        back = ("curve", 12, 5, 2, 9)
        self.assert_crossings([back, ("line", 5, 5, 9)], [(back, ("line", 5, 5, 9), Fraction(7, 10), 5)])

    def test_other_marks_do_not_cross(self):
        self.assert_crossings([("line", 5, 0, 9), ("line", 6, 0, 9), ("note", 3, 4, "abc"), ("box", 0, 0, 9, 9), ("loop", 1, 2, 3, 4)], [])
        self.assert_crossings([("curve", 0, 0, 9, 9), ("note", 3, 4, "abc"), ("box", 0, 0, 9, 9), ("loop", 1, 0, 9, 4)], [])
        self.assert_crossings([], [])

    def test_the_order_of_the_crossings(self):
        curves = [("curve", x, 0, -x, 4) for x in (-3, -1, 1, 3)]
        line = ("line", 0, 0, 4)
        half = Fraction(1, 2)
        expected = [(curves[i], curves[k], half, 0) for i in range(4) for k in range(i + 1, 4)]
        expected = sorted(expected + [(curve, line, half, 0) for curve in curves])
        self.assert_crossings([*curves, line], expected)

    def test_far_out(self):
        one, other = ("curve", -3 * FAR, 0, 3 * FAR, 1), ("curve", 3 * FAR, 0, -3 * FAR + 1, 1)
        self.assert_crossings([one, other], [(one, other, *meeting_by_words(one, other))])

    def test_a_new_list_each_time(self):
        ink = Ink([("curve", 0, 5, 4, 9), ("curve", 1, 5, 0, 9)])
        crossings_of(ink).clear()
        self.assertEqual(len(crossings_of(ink)), 1)

    def test_random_inks_against_the_words(self):
        source = random.Random(78)
        most = 0
        for _ in range(200):
            marks = []
            for _ in range(source.randint(0, 14)):
                y0 = source.choice((0, 0, 0, 4))
                y1 = y0 + source.choice((4, 4, 8))
                x0, x1 = source.sample(range(6), 2)
                marks.append(("line", x0, y0, y1) if source.random() < 0.3 else ("curve", x0, y0, x1, y1))
            expected = crossings_by_words(Ink(marks))
            self.assert_crossings(marks, expected)
            most = max(most, len(expected))
        self.assertGreater(most, 15)

    def test_a_moved_ink_crosses_at_the_same_shares(self):
        for text, picture in many_pictures(20, seed=78):
            before = [plain(crossing) for crossing in crossings_of(picture.ink)]
            after = [plain(crossing) for crossing in crossings_of(picture.ink.moved(7, -3))]
            self.assertEqual([row[2] for row in after], [row[2] for row in before], text)
            self.assertEqual([row[3] for row in after], [row[3] + 7 for row in before], text)

    def test_an_ink_has_the_crossings_of_the_plans(self):
        crossed = 0
        for text, picture in many_pictures(200, seed=86):
            found = [plain(crossing) for crossing in crossings_of(picture.ink)]
            self.assertEqual(found, crossings_by_words(picture.ink), text)
            plans = [picture.plan(name) for name, _ in walk_graphs(picture.graph)]
            self.assertEqual(len(found), sum(plan["crossings"] for plan in plans), text)
            self.assertEqual(len(found) == 0, all(plan["exchange"] is None for plan in plans), text)
            least = 0
            for plan in plans:
                net = (plan["levels"], plan["segments"])
                least += len(apart_exchanges(net))
                if plan["exchange"] is not None:
                    self.assertTrue(is_exchange(net, plan["exchange"]))
                    self.assertEqual(crossing_steps(plan["orders"], plan["exchange"]) % 2, 1)
            self.assertGreaterEqual(len(found), least)
            crossed += len(found) > 0
        self.assertGreater(crossed, 9)


if __name__ == "__main__":
    unittest.main()

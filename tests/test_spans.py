"""Point 65."""

import itertools
import unittest

from drawnlayers.errors import DrawError, EmptySpan
from drawnlayers.ways.spans import Span, common

FAR = 10 ** 9


def small_spans():
    return [(low, high) for low in range(-3, 4) for high in range(low, 4)]


def numbers_of(span):
    """The plain set of the numbers of a span; None stands for no span."""
    return set() if span is None else set(range(span.low, span.high + 1))


class SpansTest(unittest.TestCase):
    def assert_span(self, span, low, high):
        self.assertIs(type(span), Span)
        self.assertEqual((span.low, span.high), (low, high))

    def test_making(self):
        self.assert_span(Span(2, 5), 2, 5)
        self.assert_span(Span(low=-FAR, high=FAR), -FAR, FAR)
        self.assert_span(Span(7, 7), 7, 7)
        self.assert_span(Span.at(-4), -4, -4)
        self.assert_span(Span(0, 1).at(FAR), FAR, FAR)

    def test_spans_without_numbers(self):
        for low, high in ((1, 0), (FAR, -FAR), (-4, -5), (FAR, FAR - 1)):
            with self.assertRaises(EmptySpan) as caught:
                Span(low, high)
            self.assertEqual((caught.exception.low, caught.exception.high), (low, high))
            self.assertIsInstance(caught.exception, DrawError)

    def test_two_spans_against_sets(self):
        for one, other in itertools.product(small_spans(), repeat=2):
            a, b = Span(*one), Span(*other)
            shared = a & b
            self.assertEqual(numbers_of(shared), numbers_of(a) & numbers_of(b))
            both = numbers_of(a) | numbers_of(b)
            self.assert_span(a | b, min(both), max(both))
            if shared is not None:
                self.assertIs(type(shared), Span)
            self.assertEqual(((a.low, a.high), (b.low, b.high)), (one, other))

    def test_spans_that_touch_and_that_do_not(self):
        self.assertIsNone(Span(0, 3) & Span(4, 9))
        self.assertIsNone(Span(4, 9) & Span(0, 3))
        self.assert_span(Span(0, 4) & Span(4, 9), 4, 4)
        self.assert_span(Span(0, 3) | Span(4, 9), 0, 9)
        self.assert_span(Span(7, 9) | Span(-2, 0), -2, 9)

    def test_moving(self):
        for low, high in small_spans():
            span = Span(low, high)
            for k in (-FAR, -7, -1, 0, 1, 5, FAR):
                for moved in (span + k, k + span, span >> k):
                    self.assert_span(moved, low + k, high + k)
                for moved in (span - k, span << k):
                    self.assert_span(moved, low - k, high - k)
            self.assert_span(-span, -high, -low)
            self.assert_span(span, low, high)

    def test_great_numbers(self):
        self.assert_span(Span(-FAR, FAR) + FAR, 0, 2 * FAR)
        self.assert_span(-FAR + Span(-FAR, FAR), -2 * FAR, 0)
        self.assert_span(Span(-FAR, FAR) - -FAR, 0, 2 * FAR)
        self.assert_span(-Span(-FAR, 3), -3, FAR)
        self.assertEqual(abs(Span(-FAR, FAR)), 2 * FAR)
        self.assertEqual(Span(-FAR, FAR).many(), 2 * FAR + 1)
        self.assertEqual(Span(-FAR, -FAR).nearest(FAR), -FAR)

    def test_operators_that_assign_leave_the_former_span(self):
        former = span = Span(1, 4)
        span += 2
        self.assert_span(span, 3, 6)
        span -= 1
        self.assert_span(span, 2, 5)
        span >>= 3
        self.assert_span(span, 5, 8)
        span <<= 4
        self.assert_span(span, 1, 4)
        span &= Span(3, 9)
        self.assert_span(span, 3, 4)
        span |= Span(0, 0)
        self.assert_span(span, 0, 4)
        self.assert_span(former, 1, 4)

    def test_size_members_and_nearest_numbers(self):
        for low, high in small_spans():
            span = Span(low, high)
            numbers = numbers_of(span)
            self.assertEqual(span.many(), len(numbers))
            self.assertEqual(abs(span), len(numbers) - 1)
            for x in range(-6, 7):
                self.assertIs(x in span, x in numbers)
                self.assertEqual(span.nearest(x), min(numbers, key=lambda number: abs(number - x)))
            self.assertIs(FAR in span, False)
            self.assertEqual((span.nearest(-FAR), span.nearest(FAR)), (low, high))

    def test_common(self):
        for low, high in small_spans():
            self.assert_span(common(Span(low, high)), low, high)
        for rows in itertools.combinations_with_replacement(small_spans(), 3):
            spans = [Span(*row) for row in rows]
            shared = common(*spans)
            self.assertEqual(numbers_of(shared), set.intersection(*[numbers_of(span) for span in spans]))
            self.assertEqual([(span.low, span.high) for span in spans], list(rows))
        self.assertIsNone(common(Span(0, 5), Span(3, 9), Span(6, 7)))
        self.assert_span(common(*[Span(-at, at) for at in range(40)]), 0, 0)

    def test_common_of_one_span_is_like_it(self):
        span = Span(2, 3)
        self.assert_span(common(span, span, span), 2, 3)


if __name__ == "__main__":
    unittest.main()

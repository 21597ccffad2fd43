"""Spans of integers."""

from drawnlayers.errors import EmptySpan


class Span:
    """The integers from low to high, at least one."""

    def __init__(self, low, high):
        if low > high:
            raise EmptySpan(low, high)
        self.low = low
        self.high = high

    def __and__(self, other):
        low = max(self.low, other.low)
        high = min(self.high, other.high)
        return Span(low, high) if low <= high else None

    def __or__(self, other):
        return Span(min(self.low, other.low), max(self.high, other.high))

    def __add__(self, other):
        return Span(self.low + other, self.high + other)

    def __radd__(self, other):
        return self + other

    def __sub__(self, other):
        return Span(self.low - other, self.high - other)

    def __rshift__(self, other):
        return self + other

    def __lshift__(self, other):
        return self - other

    def __neg__(self):
        return Span(-self.high, -self.low)

    def __abs__(self):
        return self.high - self.low

    def __contains__(self, x):
        return self.low <= x <= self.high

    def many(self):
        """Return how many numbers the span has."""
        return self.high - self.low + 1

    def nearest(self, x):
        """Return the number of the span that is nearest to x."""
        return min(max(x, self.low), self.high)

    @staticmethod
    def at(x):
        """Return the span of one number."""
        return Span(x, x)


def common(*spans):
    """Return the span of the numbers that are in all of the spans, or None if there are none."""
    low = max([span.low for span in spans])
    high = min([span.high for span in spans])
    return Span(low, high) if low <= high else None

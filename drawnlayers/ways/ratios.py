"""Exact fractions."""

from math import gcd

from drawnlayers.base.digits import write_number
from drawnlayers.errors import ZeroBottom


class Ratio:
    """A fraction whose top and bottom have no common divisor but 1; the bottom is positive."""

    def __init__(self, top, bottom=1):
        if bottom == 0:
            raise ZeroBottom()
        divisor = gcd(top, bottom) if bottom > 0 else -gcd(top, bottom)
        self.top = top // divisor
        self.bottom = bottom // divisor

    def __add__(self, other):
        return _sum(self, _as_ratio(other))

    def __radd__(self, other):
        return _sum(_as_ratio(other), self)

    def __sub__(self, other):
        return _sum(self, -_as_ratio(other))

    def __rsub__(self, other):
        return _sum(_as_ratio(other), -self)

    def __mul__(self, other):
        return _product(self, _as_ratio(other))

    def __rmul__(self, other):
        return _product(_as_ratio(other), self)

    def __floordiv__(self, other):
        divisor = _as_ratio(other)
        if divisor.top == 0:
            raise ZeroBottom()
        return self.top * divisor.bottom // (self.bottom * divisor.top)

    def __mod__(self, other):
        return self - other * (self // other)

    def __pow__(self, other):
        power = Ratio(1)
        for _ in range(other):
            power = power * self
        return power

    def __neg__(self):
        return Ratio(-self.top, self.bottom)

    def __abs__(self):
        return Ratio(abs(self.top), self.bottom)

    def below(self, other):
        """Tell whether the ratio is less than another ratio or an integer."""
        right = _as_ratio(other)
        return self.top * right.bottom < right.top * self.bottom

    def same(self, other):
        """Tell whether the ratio is equal to another ratio or an integer."""
        right = _as_ratio(other)
        return self.top == right.top and self.bottom == right.bottom

    def written(self):
        """Return the top, `/` and the bottom, or the top alone if the bottom is 1."""
        if self.bottom == 1:
            return write_number(self.top)
        return write_number(self.top) + "/" + write_number(self.bottom)


def _as_ratio(number):
    """Return a ratio as it is, and an integer as a ratio."""
    return number if isinstance(number, Ratio) else Ratio(number)


def _sum(one, other):
    return Ratio(one.top * other.bottom + other.top * one.bottom, one.bottom * other.bottom)


def _product(one, other):
    return Ratio(one.top * other.top, one.bottom * other.bottom)

"""Point 70, its first part."""

import random
import unittest
from fractions import Fraction

from drawnlayers.errors import DrawError, ZeroBottom
from drawnlayers.ways.ratios import Ratio

FAR = 10 ** 9


def plain(number):
    """A ratio, or an integer, as a fraction of Python's own."""
    return Fraction(number.top, number.bottom) if isinstance(number, Ratio) else Fraction(number)


def random_numbers(many, seed):
    """Pairs of a ratio and of a ratio or an integer."""
    source = random.Random(seed)

    def some():
        top = source.choice((5, 30, FAR))
        return source.randint(-top, top)

    for _ in range(many):
        bottom = some() or 1
        other = some() if source.random() < 0.4 else Ratio(some(), some() or -3)
        yield Ratio(some(), bottom), other


class RatiosTest(unittest.TestCase):
    def assert_ratio(self, ratio, worth):
        self.assertIs(type(ratio), Ratio)
        self.assertEqual((ratio.top, ratio.bottom), (worth.numerator, worth.denominator))
        self.assertEqual((type(ratio.top), type(ratio.bottom)), (int, int))

    def test_making(self):
        for top in range(-12, 13):
            self.assert_ratio(Ratio(top), Fraction(top))
            for bottom in list(range(-12, 0)) + list(range(1, 13)) + [-FAR, FAR]:
                self.assert_ratio(Ratio(top, bottom), Fraction(top, bottom))
        self.assert_ratio(Ratio(bottom=-6, top=4), Fraction(-2, 3))
        self.assert_ratio(Ratio(0, -FAR), Fraction(0))
        self.assert_ratio(Ratio(-FAR, -FAR), Fraction(1))

    def test_a_bottom_of_0(self):
        half = Ratio(1, 2)
        for call in (
            lambda: Ratio(3, 0), lambda: Ratio(0, 0), lambda: Ratio(-FAR, 0),
            lambda: half // 0, lambda: half % 0, lambda: half // Ratio(0, 7), lambda: half % Ratio(0),
            lambda: Ratio(0) // 0, lambda: Ratio(0) % 0, lambda: half // (half - half), lambda: half % (half - half),
        ):
            with self.assertRaises(ZeroBottom) as caught:
                call()
            self.assertIsInstance(caught.exception, DrawError)

    def test_sums_differences_and_products(self):
        for a, b in random_numbers(400, seed=70):
            left, right = plain(a), plain(b)
            self.assert_ratio(a + b, left + right)
            self.assert_ratio(a - b, left - right)
            self.assert_ratio(a * b, left * right)
            self.assert_ratio(b + a, left + right)
            self.assert_ratio(b - a, right - left)
            self.assert_ratio(b * a, left * right)
            self.assert_ratio(-a, -left)
            self.assert_ratio(abs(a), abs(left))
            self.assertEqual((plain(a), plain(b)), (left, right))

    def test_by_a_common_bottom(self):
        for top in range(-8, 9):
            for other in range(-8, 9):
                a, b = Ratio(top, 12), Ratio(other, 12)
                self.assert_ratio(a + b, Fraction(top + other, 12))
                self.assert_ratio(a - b, Fraction(top - other, 12))
                self.assert_ratio(a * b, Fraction(top * other, 144))
                self.assertIs(a.below(b), top < other)
                self.assertIs(a.same(b), top == other)

    def test_dividing(self):
        for a, b in random_numbers(400, seed=71):
            if plain(b) == 0:
                continue
            quotient = a // b
            self.assertIs(type(quotient), int)
            self.assertEqual(quotient, plain(a) // plain(b))
            rest = a % b
            self.assert_ratio(rest, plain(a) - plain(b) * quotient)
            self.assertIs(rest.below(0), plain(rest) < 0)

    def test_dividing_with_negative_numbers(self):
        self.assertEqual([Ratio(7, 2) // 2, Ratio(-7, 2) // 2, Ratio(7, 2) // -2, Ratio(-7, 2) // -2], [1, -2, -2, 1])
        self.assertEqual([Ratio(7, 2) // Ratio(-1, 3), Ratio(-7, 2) // Ratio(-1, 3)], [-11, 10])
        for a, b, rest in ((7, 2, Fraction(3, 2)), (-7, 2, Fraction(1, 2)), (7, -2, Fraction(-1, 2)), (-7, -2, Fraction(-3, 2))):
            self.assert_ratio(Ratio(a, 2) % b, rest)
            self.assert_ratio(Ratio(a, 2) % Ratio(b), rest)
        self.assert_ratio(Ratio(6) % 3, Fraction(0))

    def test_powers(self):
        for top, bottom in ((0, 1), (1, 1), (-2, 3), (3, -2), (7, 5), (FAR, FAR - 1), (-FAR, 7)):
            for k in range(21):
                self.assert_ratio(Ratio(top, bottom) ** k, Fraction(top, bottom) ** k)
        self.assert_ratio(Ratio(0) ** 0, Fraction(1))

    def test_operators_that_assign_leave_the_former_ratio(self):
        former = ratio = Ratio(1, 2)
        ratio += 1
        self.assert_ratio(ratio, Fraction(3, 2))
        ratio -= Ratio(1, 3)
        self.assert_ratio(ratio, Fraction(7, 6))
        ratio *= 3
        self.assert_ratio(ratio, Fraction(7, 2))
        ratio %= 2
        self.assert_ratio(ratio, Fraction(3, 2))
        ratio **= 2
        self.assert_ratio(ratio, Fraction(9, 4))
        ratio //= 1
        self.assertEqual(ratio, 2)
        self.assert_ratio(former, Fraction(1, 2))

    def test_an_integer_that_is_added_to_becomes_a_ratio(self):
        total = 3
        total += Ratio(1, 2)
        self.assert_ratio(total, Fraction(7, 2))

    def test_below_and_same(self):
        for a, b in random_numbers(400, seed=72):
            self.assertIs(a.below(b), plain(a) < plain(b))
            self.assertIs(a.same(b), plain(a) == plain(b))
            self.assertIs(a.same(a), True)
            self.assertIs(a.below(a), False)
        self.assertIs(Ratio(4, 2).same(2), True)
        self.assertIs(Ratio(5, 2).same(2), False)
        self.assertIs(Ratio(-5, 2).below(-2), True)
        self.assertIs(Ratio(-2).below(-2), False)
        self.assertIs(Ratio(1, 3).below(Ratio(FAR // 3, FAR)), False)

    def test_written(self):
        cases = {(1, 5): "1/5", (-1, 5): "-1/5", (4, -6): "-2/3", (0, 9): "0", (8, 4): "2", (-8, 4): "-2", (FAR, 1): str(FAR),
                 (-FAR, FAR - 1): f"-{FAR}/{FAR - 1}"}
        for (top, bottom), written in cases.items():
            self.assertEqual(Ratio(top, bottom).written(), written)

    def test_results_may_be_larger_than_what_is_passed_in(self):
        large = Ratio(FAR, FAR - 1) ** 20 * Ratio(-3, 7) + FAR
        worth = Fraction(FAR, FAR - 1) ** 20 * Fraction(-3, 7) + FAR
        self.assert_ratio(large, worth)
        self.assertEqual(large.written(), f"{worth.numerator}/{worth.denominator}")
        self.assertEqual((large ** 3 // large, large % 1 // 1), (worth ** 3 // worth, 0))

    def test_rows_of_thousands_of_digits_are_written(self):
        written = (((Ratio(10, 7) ** 20) ** 20) ** 19).written()
        top, bottom = written.split("/")
        self.assertEqual(top, "1" + "0" * 7600)
        # Python's own str() and int() refuse so many digits.
        number = 0
        for digit in bottom:
            number = number * 10 + int(digit)
        self.assertEqual(number, 7 ** 7600)
        great = (Ratio(10) ** 20) ** 20 * 7
        for many in (1, 5, 20):
            self.assertEqual((great ** many * -1).written(), "-" + (great ** many).written())
            self.assertEqual((great ** many * Ratio(10, 7) ** many).written(), "1" + "0" * (401 * many))
        for number in (10 ** 59, 10 ** 60 - 1, 10 ** 60, 10 ** 60 + 1, 10 ** 120 + 7, 10 ** 180 - 1):
            self.assertEqual((Ratio(number).written(), Ratio(-number).written()), (str(number), str(-number)))


if __name__ == "__main__":
    unittest.main()

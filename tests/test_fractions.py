"""Item 2: fractions."""

import unittest
from fractions import Fraction

from helper import ODD_VALUES, frac

from handedpast import fractions
from handedpast.fractions import floor_of, is_fraction, new_fraction, order_of
from handedpast.fractions import product_of, rest_of, share_of, sum_of

NUMBERS = [Fraction(n, d) for n in range(-6, 7) for d in range(1, 5)]
HUGE = [Fraction(10 ** 60 - 1, 10 ** 59 + 7), Fraction(-(10 ** 60) + 1), Fraction(1, 10 ** 60 - 1), Fraction(3)]


class FractionsTest(unittest.TestCase):
    def test_is_fraction(self):
        for value in [(0, 1), (1, 1), (-1, 1), (1, 2), (-3, 4), (10 ** 60 - 1, 10 ** 60 - 2)]:
            self.assertIs(is_fraction(value), True, value)
        self.assertIs(is_fraction(value=(5, 3)), True)

    def test_is_no_fraction(self):
        others = [1, 10 ** 40, None, [(1, 2)], ((1, 2),), {(1, 2): 1}, "(1, 2)", (10 ** 60, 10 ** 59)]
        for value in ODD_VALUES + others:
            self.assertIs(is_fraction(value), False, value)

    def test_new_fraction(self):
        self.assertEqual(new_fraction(6, 4), (3, 2))
        self.assertEqual(new_fraction(6, -4), (-3, 2))
        self.assertEqual(new_fraction(-6, -4), (3, 2))
        self.assertEqual(new_fraction(0, -7), (0, 1))
        self.assertEqual(new_fraction(-7), (-7, 1))
        self.assertEqual(new_fraction(n=10, d=5), (2, 1))
        for n in range(-12, 13):
            for d in [d for d in range(-12, 13) if d != 0]:
                self.assertEqual(new_fraction(n, d), frac(Fraction(n, d)))

    def test_examples(self):
        self.assertEqual(share_of((1, 2), (-3, 4)), (-2, 3))
        self.assertEqual(floor_of((-7, 2)), -4)

    def check_pair(self, x, y):
        a, b = frac(x), frac(y)
        self.assertEqual(sum_of(a, b), frac(x + y))
        self.assertEqual(rest_of(a, b), frac(x - y))
        self.assertEqual(product_of(a, b), frac(x * y))
        self.assertEqual(order_of(a, b), (x > y) - (x < y))
        if y != 0:
            self.assertEqual(share_of(a, b), frac(x / y))

    def test_arithmetic(self):
        for x in NUMBERS:
            for y in NUMBERS:
                self.check_pair(x, y)

    def test_numbers_of_any_size(self):
        for x in HUGE:
            for y in HUGE:
                self.check_pair(x, y)
                self.check_pair(x ** 5, -y)
        close = ((10 ** 59, 10 ** 59 + 1), (10 ** 59 + 1, 10 ** 59 + 2))
        self.assertEqual(order_of(*close), -1)
        self.assertEqual(rest_of((10 ** 60, 1), (10 ** 60 - 1, 1)), (1, 1))

    def test_results_are_fractions_of_integers(self):
        for result in [sum_of((1, 2), (1, 2)), share_of((-4, 1), (-2, 1)), product_of((0, 1), (-2, 3))]:
            self.assertTrue(is_fraction(result), result)
        for result in [order_of((1, 2), (1, 3)), order_of((1, 2), (1, 2)), floor_of((1, 2))]:
            self.assertIs(type(result), int)

    def test_floor(self):
        for x in NUMBERS + HUGE:
            self.assertEqual(floor_of(frac(x)), x.numerator // x.denominator)
        self.assertEqual(floor_of((-1, 10 ** 60)), -1)
        self.assertEqual(floor_of((-4, 1)), -4)

    def test_parameter_names(self):
        for function in [sum_of, rest_of, product_of, share_of, order_of]:
            self.assertEqual(function(a=(3, 1), b=(1, 2)), function((3, 1), (1, 2)))
        self.assertEqual(floor_of(a=(7, 2)), 3)

    def test_defined_in_this_file(self):
        for name in ["is_fraction", "new_fraction", "sum_of", "rest_of", "product_of", "share_of", "order_of",
                     "floor_of"]:
            self.assertEqual(getattr(fractions, name).__module__, "handedpast.fractions")


if __name__ == "__main__":
    unittest.main()

"""Fractions: lowest terms, arithmetic, comparing, writing, and fractions that do not exist."""

import unittest
from fractions import Fraction

from lostleast.errors import BadRatio
from lostleast.ratio import Ratio

# Two numbers of 60 digits without a common divisor, as the first one is the other one doubled plus 1.
HALF = 123456789012345678901234567890123456789012345678901234567890
LONG = 2 * HALF + 1

SOME = [(num, den) for num in range(-6, 7) for den in range(1, 6)]


def parts(ratio):
    return (ratio.num, ratio.den)


def expected(fraction):
    return (fraction.numerator, fraction.denominator)


class LowestTermsTest(unittest.TestCase):

    def test_numerators_above_0(self):
        self.assertEqual(parts(Ratio(3, 4)), (3, 4))
        self.assertEqual(parts(Ratio(6, 8)), (3, 4))
        self.assertEqual(parts(Ratio(8, 4)), (2, 1))

    def test_numerators_below_0(self):
        self.assertEqual(parts(Ratio(-3, 4)), (-3, 4))
        self.assertEqual(parts(Ratio(-6, 8)), (-3, 4))
        self.assertEqual(parts(Ratio(-8, 4)), (-2, 1))
        self.assertEqual(parts(Ratio(-5, 5)), (-1, 1))

    def test_zero_has_the_denominator_1(self):
        for den in (1, 2, 7, LONG):
            self.assertEqual(parts(Ratio(0, den)), (0, 1))
        self.assertEqual(parts(Ratio(0)), (0, 1))

    def test_denominator_left_out(self):
        for num in (-5, 0, 1, 12, LONG):
            self.assertEqual(parts(Ratio(num)), (num, 1))

    def test_arguments_by_place_and_by_name(self):
        self.assertEqual(parts(Ratio(2, den=6)), (1, 3))
        self.assertEqual(parts(Ratio(num=2, den=6)), (1, 3))
        self.assertEqual(parts(Ratio(den=6, num=-2)), (-1, 3))
        self.assertEqual(parts(Ratio(num=4)), (4, 1))

    def test_parts_of_60_digits(self):
        self.assertEqual(len(str(LONG)), 60)
        self.assertEqual(parts(Ratio(HALF, LONG)), (HALF, LONG))
        self.assertEqual(parts(Ratio(-6 * HALF, 6 * LONG)), (-HALF, LONG))
        self.assertEqual(parts(Ratio(LONG, LONG)), (1, 1))

    def test_all_small_fractions(self):
        for num, den in SOME:
            self.assertEqual(parts(Ratio(num, den)), expected(Fraction(num, den)))


class ArithmeticTest(unittest.TestCase):

    def assertRatio(self, ratio, num, den=1):
        self.assertIsInstance(ratio, Ratio)
        self.assertEqual(parts(ratio), (num, den))

    def test_sums(self):
        self.assertRatio(Ratio(1, 2) + Ratio(1, 3), 5, 6)
        self.assertRatio(Ratio(1, 6) + Ratio(1, 3), 1, 2)
        self.assertRatio(Ratio(1, 4) + Ratio(1, 4), 1, 2)
        self.assertRatio(Ratio(-1, 2) + Ratio(1, 2), 0)
        self.assertRatio(Ratio(-1, 2) + Ratio(-3, 2), -2)

    def test_differences(self):
        self.assertRatio(Ratio(1, 2) - Ratio(1, 3), 1, 6)
        self.assertRatio(Ratio(1, 3) - Ratio(1, 2), -1, 6)
        self.assertRatio(Ratio(2, 7) - Ratio(4, 14), 0)
        self.assertRatio(Ratio(-1, 2) - Ratio(-1, 3), -1, 6)

    def test_products(self):
        self.assertRatio(Ratio(2, 3) * Ratio(3, 4), 1, 2)
        self.assertRatio(Ratio(-2, 3) * Ratio(3, 4), -1, 2)
        self.assertRatio(Ratio(-2, 3) * Ratio(-3, 2), 1)
        self.assertRatio(Ratio(0) * Ratio(-3, 4), 0)

    def test_quotients(self):
        self.assertRatio(Ratio(1, 2).over(Ratio(1, 3)), 3, 2)
        self.assertRatio(Ratio(2, 3).over(Ratio(2, 3)), 1)
        self.assertRatio(Ratio(1, 2).over(Ratio(-1, 3)), -3, 2)
        self.assertRatio(Ratio(-1, 2).over(Ratio(1, 3)), -3, 2)
        self.assertRatio(Ratio(-1, 2).over(Ratio(-1, 4)), 2)
        self.assertRatio(Ratio(0).over(Ratio(-5, 7)), 0)

    def test_all_small_fractions(self):
        for num, den in SOME:
            for num_b, den_b in SOME:
                a, b = Ratio(num, den), Ratio(num_b, den_b)
                c, d = Fraction(num, den), Fraction(num_b, den_b)
                self.assertEqual(parts(a + b), expected(c + d))
                self.assertEqual(parts(a - b), expected(c - d))
                self.assertEqual(parts(a * b), expected(c * d))
                if num_b != 0:
                    self.assertEqual(parts(a.over(b)), expected(c / d))

    def test_parts_of_60_digits(self):
        near, nearer = Ratio(HALF, LONG), Ratio(HALF + 1, LONG)
        self.assertRatio(near + nearer, 1)
        self.assertRatio(near - nearer, -1, LONG)
        self.assertRatio(near * Ratio(LONG, HALF), 1)
        self.assertRatio(near * near, HALF * HALF, LONG * LONG)
        self.assertRatio(near.over(nearer), HALF, HALF + 1)
        self.assertRatio(near.over(Ratio(-HALF, LONG)), -1)

    def test_results_are_exact_integers(self):
        for ratio in (Ratio(4, 2) + Ratio(1), Ratio(1, 2) * Ratio(2), Ratio(6).over(Ratio(-3)), Ratio(1) - Ratio(1)):
            self.assertIs(type(ratio.num), int)
            self.assertIs(type(ratio.den), int)


class ComparingTest(unittest.TestCase):

    def test_equal(self):
        self.assertTrue(Ratio(1, 2) == Ratio(1, 2))
        self.assertTrue(Ratio(1, 2) == Ratio(3, 6))
        self.assertTrue(Ratio(-4, 6) == Ratio(-2, 3))
        self.assertTrue(Ratio(0, 5) == Ratio(0))
        self.assertTrue(Ratio(6 * HALF, 6 * LONG) == Ratio(HALF, LONG))

    def test_not_equal(self):
        self.assertFalse(Ratio(1, 2) == Ratio(1, 3))
        self.assertFalse(Ratio(1, 3) == Ratio(2, 3))
        self.assertFalse(Ratio(1, 2) == Ratio(-1, 2))
        self.assertFalse(Ratio(2, 3) == Ratio(3, 2))
        self.assertFalse(Ratio(HALF, LONG) == Ratio(HALF + 1, LONG))
        self.assertTrue(Ratio(1, 2) != Ratio(1, 3))
        self.assertFalse(Ratio(1, 2) != Ratio(2, 4))

    def test_less(self):
        self.assertIs(Ratio(1, 3).less(Ratio(1, 2)), True)
        self.assertIs(Ratio(1, 2).less(Ratio(1, 3)), False)
        self.assertIs(Ratio(2, 3).less(Ratio(3, 4)), True)

    def test_equal_fractions_are_not_less(self):
        for ratio in (Ratio(1, 2), Ratio(0), Ratio(-3, 7), Ratio(HALF, LONG)):
            self.assertIs(ratio.less(ratio), False)
        self.assertIs(Ratio(2, 4).less(Ratio(1, 2)), False)

    def test_less_below_0(self):
        self.assertIs(Ratio(-1, 2).less(Ratio(-1, 3)), True)
        self.assertIs(Ratio(-1, 3).less(Ratio(-1, 2)), False)
        self.assertIs(Ratio(-1, 2).less(Ratio(0)), True)
        self.assertIs(Ratio(0).less(Ratio(-1, 2)), False)
        self.assertIs(Ratio(-5).less(Ratio(1, 9)), True)

    def test_less_with_60_digits(self):
        self.assertIs(Ratio(HALF, LONG).less(Ratio(1, 2)), True)
        self.assertIs(Ratio(1, 2).less(Ratio(HALF, LONG)), False)
        self.assertIs(Ratio(HALF, LONG).less(Ratio(HALF + 1, LONG)), True)

    def test_all_small_fractions(self):
        for num, den in SOME:
            for num_b, den_b in SOME:
                a, b = Ratio(num, den), Ratio(num_b, den_b)
                c, d = Fraction(num, den), Fraction(num_b, den_b)
                self.assertEqual(a == b, c == d)
                self.assertEqual(a.less(b), c < d)


class WritingTest(unittest.TestCase):

    def test_whole_numbers(self):
        self.assertEqual(str(Ratio(0)), "0")
        self.assertEqual(str(Ratio(0, 9)), "0")
        self.assertEqual(str(Ratio(1)), "1")
        self.assertEqual(str(Ratio(8, 4)), "2")
        self.assertEqual(str(Ratio(-12, 3)), "-4")

    def test_other_fractions(self):
        self.assertEqual(str(Ratio(1, 2)), "1/2")
        self.assertEqual(str(Ratio(6, 4)), "3/2")
        self.assertEqual(str(Ratio(-6, 4)), "-3/2")

    def test_60_digits(self):
        self.assertEqual(str(Ratio(HALF, LONG)), str(HALF) + "/" + str(LONG))
        self.assertEqual(str(Ratio(-LONG)), "-" + str(LONG))


class NoFractionTest(unittest.TestCase):

    def test_denominators_that_are_not_positive(self):
        for den in (0, -1, -2, -LONG):
            for num in (-LONG, -2, -1, 0, 1, 2, LONG):
                with self.subTest(num=num, den=den):
                    with self.assertRaises(BadRatio):
                        Ratio(num, den)
                    with self.assertRaises(BadRatio):
                        Ratio(num=num, den=den)

    def test_over_0(self):
        for ratio in (Ratio(1, 2), Ratio(0), Ratio(-1, 2), Ratio(HALF, LONG)):
            for zero in (Ratio(0), Ratio(0, 7), Ratio(1, 2) - Ratio(1, 2)):
                with self.assertRaises(BadRatio):
                    ratio.over(zero)


class UnchangedTest(unittest.TestCase):

    def test_asked_fractions_stay_as_they_were(self):
        a, b, zero = Ratio(-6, 4), Ratio(2, 3), Ratio(0, 3)
        for one, other in ((a, b), (b, a), (a, a), (zero, a)):
            one + other, one - other, one * other, one == other
            one.less(other), one.over(other), str(one)
        with self.assertRaises(BadRatio):
            a.over(zero)
        self.assertEqual([parts(a), parts(b), parts(zero)], [(-3, 2), (2, 3), (0, 1)])

    def test_defined_in_its_file(self):
        self.assertEqual(Ratio.__module__, "lostleast.ratio")
        self.assertIn("less", vars(Ratio))
        self.assertIn("over", vars(Ratio))

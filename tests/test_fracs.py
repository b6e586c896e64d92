"""Point 5: fractions."""

import unittest
from fractions import Fraction
from math import gcd

from everydraw.errors import NoBottom
from everydraw.fracs import frac_by, frac_less, frac_lesser, frac_sum, frac_times, fraction_of

THIRTY = 10**30 - 1
SOME = [
    (0, 1), (1, 1), (-1, 1), (1, 2), (-1, 2), (2, 3), (-7, 4), (9, 5), (12, 1), (-12, 1),
    (THIRTY, 1), (-THIRTY, 1), (1, THIRTY), (-THIRTY, THIRTY - 1), (10**29 + 7, 10**29 + 9),
]


def pair(worth):
    return (worth.numerator, worth.denominator)


class FractionOf(unittest.TestCase):
    def test_every_sign_of_top_and_bottom(self):
        self.assertEqual(fraction_of(6, 4), (3, 2))
        self.assertEqual(fraction_of(-6, 4), (-3, 2))
        self.assertEqual(fraction_of(6, -4), (-3, 2))
        self.assertEqual(fraction_of(-6, -4), (3, 2))
        self.assertEqual(fraction_of(6, 3), (2, 1))
        self.assertEqual(fraction_of(3, -6), (-1, 2))

    def test_nought(self):
        for bottom in (1, -1, 2, -2, 15, THIRTY, -THIRTY):
            self.assertEqual(fraction_of(0, bottom), (0, 1))

    def test_all_small_tops_and_bottoms(self):
        for top in range(-30, 31):
            for bottom in list(range(-30, 0)) + list(range(1, 31)):
                told = fraction_of(top, bottom)
                self.assertEqual(told, pair(Fraction(top, bottom)))
                self.assertIs(told.__class__, tuple)

    def test_thirty_figures_with_a_great_common_divisor(self):
        common = 10**25 + 13
        top = 99991 * common
        bottom = 30030 * common
        self.assertEqual(len(str(top)), 30)
        self.assertEqual(len(str(bottom)), 30)
        self.assertEqual(fraction_of(top, bottom), (99991, 30030))
        self.assertEqual(fraction_of(-top, bottom), (-99991, 30030))
        self.assertEqual(fraction_of(top, -bottom), (-99991, 30030))
        self.assertEqual(fraction_of(THIRTY, THIRTY), (1, 1))
        self.assertEqual(fraction_of(THIRTY, -THIRTY), (-1, 1))
        self.assertEqual(fraction_of(THIRTY, THIRTY - 1), (THIRTY, THIRTY - 1))

    def test_the_bottom_0_is_refused(self):
        for top in (0, 1, -1, THIRTY):
            with self.assertRaises(NoBottom):
                fraction_of(top, 0)


class Reckoning(unittest.TestCase):
    def check(self, told, worth):
        self.assertEqual(told, pair(worth))
        self.assertIs(told.__class__, tuple)
        self.assertEqual(gcd(told[0], told[1]), 1)
        self.assertGreaterEqual(told[1], 1)

    def test_all_against_plain_fractions(self):
        for one in SOME:
            for other in SOME:
                first = Fraction(one[0], one[1])
                second = Fraction(other[0], other[1])
                self.check(frac_sum(one, other), first + second)
                self.check(frac_less(one, other), first - second)
                self.check(frac_times(one, other), first * second)
                if other != (0, 1):
                    self.check(frac_by(one, other), first / second)
                self.assertIs(frac_lesser(one, other), first < second)

    def test_the_order_of_less_and_by(self):
        self.assertEqual(frac_less((1, 2), (1, 3)), (1, 6))
        self.assertEqual(frac_less((1, 3), (1, 2)), (-1, 6))
        self.assertEqual(frac_by((1, 2), (1, 3)), (3, 2))
        self.assertEqual(frac_by((1, 2), (-1, 3)), (-3, 2))
        self.assertEqual(frac_by((0, 1), (-1, 3)), (0, 1))

    def test_by_0_is_refused(self):
        for one in SOME:
            with self.assertRaises(NoBottom):
                frac_by(one, (0, 1))

    def test_lesser_of_equal_ones_and_below_0(self):
        self.assertIs(frac_lesser((1, 2), (1, 2)), False)
        self.assertIs(frac_lesser((0, 1), (0, 1)), False)
        self.assertIs(frac_lesser((-1, 2), (-1, 2)), False)
        self.assertIs(frac_lesser((-1, 2), (-1, 3)), True)
        self.assertIs(frac_lesser((-1, 3), (-1, 2)), False)
        self.assertIs(frac_lesser((-1, 2), (0, 1)), True)
        self.assertIs(frac_lesser((0, 1), (-1, 2)), False)
        self.assertIs(frac_lesser((-5, 1), (1, 7)), True)

    def test_one_fraction_handed_in_twice(self):
        for one in SOME:
            worth = Fraction(one[0], one[1])
            self.check(frac_sum(one, one), 2 * worth)
            self.assertEqual(frac_less(one, one), (0, 1))
            self.check(frac_times(one, one), worth * worth)
            self.assertIs(frac_lesser(one, one), False)
            if one != (0, 1):
                self.assertEqual(frac_by(one, one), (1, 1))

    def test_the_same_is_told_again(self):
        for asked in (frac_sum, frac_less, frac_times, frac_by, frac_lesser):
            self.assertEqual(asked((5, 6), (-3, 4)), asked((5, 6), (-3, 4)))
        self.assertEqual(fraction_of(10, -12), fraction_of(10, -12))

    def test_what_was_told_is_handed_in_again(self):
        told = (1, 1)
        worth = Fraction(1)
        for step in range(1, 60):
            told = frac_sum(frac_times(told, (-step, step + 1)), (1, 10**20 + step))
            worth = worth * Fraction(-step, step + 1) + Fraction(1, 10**20 + step)
        self.check(told, worth)


if __name__ == "__main__":
    unittest.main()

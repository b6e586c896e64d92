"""The amounts that the raw rules reckon with, and the sums of products that they share."""

import unittest
from copy import deepcopy

import plain as by_hand
from everydraw.amounts import (
    free_poly, free_weight, poly_total, told_fraction, weight_total, whole_total,
)
from everydraw.fracs import is_fraction, is_whole
from everydraw.sums import crossed, determinant, dotted, square_of_way, way_between, without_place
from plain import TEN, THIRTY, check_form, lists_in, made, made_thing, plain, plains

X = [((1,), 1)]
Y = [((0, 1), 1)]
SOME = [[], [((), 1)], X, Y, made(1, 4, 2, 3, 9), made(2, 6, 6, 2, THIRTY), made(3, 5, 3, 12, TEN)]


class Totals(unittest.TestCase):
    def check(self, parts):
        before = deepcopy(parts)
        answer = poly_total(parts)
        self.assertEqual(parts, before)
        check_form(self, answer)
        whole = plain(0)
        for part in parts:
            product = plain(part[0])
            for factor in part[1:]:
                product = product * plain(factor)
            whole = whole + product
        self.assertEqual(answer, whole.told())
        self.assertFalse({id(one) for one in lists_in(answer)} & {id(one) for one in lists_in(parts)})

    def test_polynomials(self):
        self.check([])
        self.check([(5,)])
        self.check([(0,)])
        self.check([(5,), (-5,)])
        self.check([(0, X)])
        for one in SOME:
            self.check([(1, one)])
            self.check([(-2, one)])
            for other in SOME:
                self.check([(1, one, other), (-1, other, one)])
                self.check([(3, one), (-2, other), (7,)])
                self.check([(TEN, one, other), (2, one), (-THIRTY,)])
        for one in SOME[2:5]:
            for other in SOME[2:5]:
                self.check([(1, one, one, other), (-1, other, one), (4, other, other, other, one)])

    def test_what_falls_away_on_the_way(self):
        both, unlike = [((1,), 1), ((0, 1), 1)], [((1,), 1), ((0, 1), -1)]
        self.assertEqual(poly_total([(1, both, unlike), (1, Y, Y)]), [((2,), 1)])
        self.assertEqual(poly_total([(1, both, unlike, both), (-1, unlike, both, both)]), [])

    def test_powers_that_add_up_to_more_bits(self):
        seven = [((7, 7), 1), ((0, 7), 1)]
        self.check([(1, seven, seven, seven), (1, seven)])
        self.check([(1, [((15,), 1)], [((1, 1), 1)]), (1, Y)])

    def test_whole_numbers(self):
        self.assertEqual(whole_total([]), 0)
        self.assertEqual(whole_total([(5,), (2, 3), (-1, 4, 5, 6)]), 5 + 6 - 120)
        self.assertEqual(whole_total([(1, THIRTY, THIRTY), (-1, THIRTY, THIRTY)]), 0)

    def test_weights(self):
        self.assertEqual(weight_total([]), 0)
        self.assertEqual(weight_total([(0,)]), 0)
        self.assertEqual(weight_total([(-9, 2, 3), (100, 4)]), 5)
        self.assertEqual(weight_total([(1, 2, 3), (-1, 2, 3)]), 5)

    def test_fractions_of_amounts(self):
        for k in range(6):
            self.assertEqual(free_poly(k), ([(tuple([0] * k + [1]), 1)], [((), 1)]))
        self.assertEqual(free_weight(), (1, 0))
        self.assertEqual(told_fraction(poly_total, (-3, 4)), ([((), -3)], [((), 4)]))
        self.assertEqual(told_fraction(poly_total, (0, 1)), ([], [((), 1)]))
        self.assertEqual(told_fraction(whole_total, (-3, 4)), (-3, 4))
        self.assertEqual(told_fraction(weight_total, (-3, 4)), (0, 0))


class Sums(unittest.TestCase):
    def test_of_whole_numbers(self):
        self.assertEqual(crossed(whole_total, (1, 2, 3), (4, 5, 6)), (-3, 6, -3))
        self.assertEqual(dotted(whole_total, (1, 2, 3), (4, 5, 6)), 32)
        self.assertEqual(way_between(whole_total, (1, 2, 3), (4, 5, 6)), (4 * 3 - 1 * 6, 5 * 3 - 2 * 6))
        self.assertEqual(square_of_way(whole_total, (3, 4, 7)), 25)
        self.assertEqual(without_place([(1, 2, 3), (4, 5, 6)], 1), [(1, 3), (4, 6)])

    def test_determinants(self):
        for size in (2, 3, 4):
            table = [made_thing(10 * size + k, size, 2, 2, 2, 99) for k in range(size)]
            answer = determinant(poly_total, table)
            check_form(self, answer)
            self.assertEqual(answer, by_hand.determinant([plains(line) for line in table]).told())
            self.assertEqual(determinant(poly_total, [table[0]] * 2 + table[2:]), [])
        self.assertEqual(determinant(whole_total, [(1, 2), (3, 4)]), -2)
        self.assertEqual(determinant(whole_total, [(2, 0, 0), (0, 0, 3), (0, 5, 0)]), -30)
        self.assertEqual(determinant(weight_total, [(1, 2, 0), (3, 0, 1), (0, 4, 2)]), 7)


class Kinds(unittest.TestCase):
    def test_whole_numbers(self):
        for some in (0, -1, 5, THIRTY):
            self.assertTrue(is_whole(some))
        for some in (True, False, None, "1", (1,), [1], 1.0):
            self.assertFalse(is_whole(some))

    def test_fractions(self):
        for some in ((0, 1), (1, 1), (-1, 2), (THIRTY, THIRTY - 1)):
            self.assertTrue(is_fraction(some))
        wrong = [
            (0, 2), (2, 4), (1, 0), (1, -1), (0, 0), (0, -1), (1, 2, 3), (1,), (), [1, 2], (True, 1), (1, True),
            ("1", 2), (1, None), "12", 5, None, ((1, 2), (3, 4)),
        ]
        for some in wrong:
            self.assertFalse(is_fraction(some))


if __name__ == "__main__":
    unittest.main()

"""Points 6 and 7: polynomials; and point 2, as far as it speaks of them."""

import random
import unittest
from copy import deepcopy
from fractions import Fraction

from everydraw.errors import NoBottom
from everydraw.polys import divided_by, poly_less, poly_of, poly_sum, poly_times, worth_at

THIRTY = 10**30 - 1
ONE = [((), 1)]
ALL_SIX = [((1, 2, 3, 4, 5, 6), -7), ((0, 0, 0, 0, 0, 1), 4), ((), 9)]


# The plain reckoning: a dict from six powers to a number, written without the program's own forms.
def plain(some):
    worth = {}
    for powers, number in some:
        full = tuple(list(powers) + [0] * (6 - len(powers)))
        worth[full] = worth.get(full, 0) + number
    return {full: number for full, number in worth.items() if number != 0}


def plain_sum(one, other, sign):
    worth = dict(plain(one))
    for full, number in plain(other).items():
        worth[full] = worth.get(full, 0) + sign * number
    return {full: number for full, number in worth.items() if number != 0}


def plain_times(one, other):
    worth = {}
    for first, number in plain(one).items():
        for second, part in plain(other).items():
            full = tuple(a + b for a, b in zip(first, second))
            worth[full] = worth.get(full, 0) + number * part
    return {full: number for full, number in worth.items() if number != 0}


def plain_worth(some, place):
    worth = Fraction(0)
    for powers, number in some:
        part = Fraction(number)
        for k, power in enumerate(powers):
            at = Fraction(place[k][0], place[k][1]) if k < len(place) else Fraction(0)
            part *= at**power
        worth += part
    return (worth.numerator, worth.denominator)


# By hand: the greatest term that is left is divided, with fractions and without any bound. (As dicts, or None.)
def plain_divided(one, other):
    left = {full: Fraction(number) for full, number in plain(one).items()}
    lead = max(plain(other))
    quotient = {}
    while left:
        full = max(left)
        powers = tuple(a - b for a, b in zip(full, lead))
        number = left[full] / plain(other)[lead]
        if min(powers) < 0 or number.denominator != 1:
            return None
        quotient[powers] = number.numerator
        for second, part in plain(other).items():
            whole = tuple(a + b for a, b in zip(powers, second))
            left[whole] = left.get(whole, Fraction(0)) - number * part
        left = {full: number for full, number in left.items() if number != 0}
    return quotient


def made(seed, terms, places, most, size):
    chance = random.Random(seed)
    found = []
    for _ in range(terms):
        powers = tuple(chance.randint(0, most) for _ in range(chance.randint(0, places)))
        found.append((powers, chance.choice((-1, 1)) * chance.randint(1, size)))
    return poly_of(found)


SOME = [
    [], ONE, [((), -1)], [((1,), 1)], [((0, 1), -1)], ALL_SIX,
    [((1,), 1), ((0, 1), 1)], [((1,), 1), ((0, 1), -1)],
    [((1,), 1), ((), THIRTY)], [((12, 12), THIRTY), ((3,), -THIRTY)],
    made(1, 5, 2, 3, 9), made(2, 12, 6, 2, 99), made(3, 20, 3, 4, THIRTY), made(4, 60, 6, 12, THIRTY),
]


class Polys(unittest.TestCase):
    def check_form(self, told):
        self.assertIs(told.__class__, list)
        for term in told:
            self.assertIs(term.__class__, tuple)
            self.assertEqual(len(term), 2)
            self.assertIs(term[0].__class__, tuple)
            self.assertLessEqual(len(term[0]), 6)
            self.assertTrue(all(power.__class__ is int and power >= 0 for power in term[0]))
            self.assertFalse(term[0] and term[0][-1] == 0, term)
            self.assertIs(term[1].__class__, int)
            self.assertNotEqual(term[1], 0)
        for before, behind in zip(told, told[1:]):
            self.assertGreater(before[0], behind[0])

    def check(self, told, worth):
        self.check_form(told)
        self.assertEqual(plain(told), worth)


class PolyOf(Polys):
    def test_nothing_comes_to_0(self):
        self.assertEqual(poly_of([]), [])

    def test_noughts_at_the_end_of_powers(self):
        self.assertEqual(poly_of([((1, 0, 2, 0, 0, 0), 3)]), [((1, 0, 2), 3)])
        self.assertEqual(poly_of([((0, 0, 0, 0, 0, 0), 3)]), [((), 3)])
        self.assertEqual(poly_of([((0,), 3)]), [((), 3)])
        self.assertEqual(poly_of([((0, 0, 1), 3)]), [((0, 0, 1), 3)])

    def test_the_same_powers_several_times(self):
        self.assertEqual(poly_of([((1,), 2), ((1,), 3), ((1,), -1)]), [((1,), 4)])
        self.assertEqual(poly_of([((1, 0), 2), ((), 5), ((1,), 3), ((0,), 6)]), [((1,), 5), ((), 11)])

    def test_numbers_that_are_0_or_come_to_0(self):
        self.assertEqual(poly_of([((2,), 0)]), [])
        self.assertEqual(poly_of([((2,), 0), ((1,), 1)]), [((1,), 1)])
        self.assertEqual(poly_of([((2,), 5), ((1,), 1), ((2, 0), -5)]), [((1,), 1)])
        self.assertEqual(poly_of([((2,), 5), ((2,), -5), ((2,), 4)]), [((2,), 4)])
        self.assertEqual(poly_of([((2,), THIRTY), ((2,), -THIRTY)]), [])

    def test_six_powers(self):
        self.assertEqual(poly_of([((1, 2, 3, 4, 5, 6), 7)]), [((1, 2, 3, 4, 5, 6), 7)])
        self.assertEqual(poly_of([((), 9), ((0, 0, 0, 0, 0, 1), 4), ((1, 2, 3, 4, 5, 6), -7)]), ALL_SIX)

    def test_greater_powers_come_first(self):
        order = [(2,), (1, 1, 1), (1, 1), (1, 0, 0, 0, 0, 9), (1,), (0, 12), (0, 0, 3), (0, 0, 0, 0, 0, 1), ()]
        for seed in range(20):
            mixed = list(order)
            random.Random(seed).shuffle(mixed)
            told = poly_of([(powers, k + 1) for k, powers in enumerate(mixed)])
            self.assertEqual([powers for powers, _ in told], order)
            self.check_form(told)

    def test_a_polynomial_tells_itself(self):
        for some in SOME:
            self.check_form(some)
            self.assertEqual(poly_of(some), some)
            self.assertEqual(poly_of(list(reversed(some))), some)

    def test_lists_of_chance_terms(self):
        chance = random.Random(7)
        for _ in range(60):
            terms = []
            for _ in range(chance.randint(0, 30)):
                powers = tuple(chance.randint(0, 2) for _ in range(chance.randint(0, 6)))
                terms.append((powers, chance.randint(-2, 2)))
            self.check(poly_of(terms), plain(terms))

    def test_powers_of_thirty_figures(self):
        self.assertEqual(poly_of([((THIRTY, 0), 1), ((THIRTY,), 1), ((), 1)]), [((THIRTY,), 2), ((), 1)])


class Reckoning(Polys):
    def test_all_against_a_plain_reckoning(self):
        for one in SOME:
            for other in SOME:
                self.check(poly_sum(one, other), plain_sum(one, other, 1))
                self.check(poly_less(one, other), plain_sum(one, other, -1))
                self.check(poly_times(one, other), plain_times(one, other))

    def test_either_way_about(self):
        for one in SOME:
            for other in SOME:
                self.assertEqual(poly_sum(one, other), poly_sum(other, one))
                self.assertEqual(poly_times(one, other), poly_times(other, one))
                self.assertEqual(poly_less(one, other), poly_times([((), -1)], poly_less(other, one)))

    def test_with_0_with_1_and_with_itself(self):
        for one in SOME:
            self.assertEqual(poly_sum(one, []), one)
            self.assertEqual(poly_less(one, []), one)
            self.assertEqual(poly_less([], one), [(powers, -number) for powers, number in one])
            self.assertEqual(poly_times(one, []), [])
            self.assertEqual(poly_times(one, ONE), one)
            self.assertEqual(poly_sum(one, one), [(powers, 2 * number) for powers, number in one])
            self.assertEqual(poly_less(one, one), [])
            self.check(poly_times(one, one), plain_times(one, one))

    def test_what_falls_away(self):
        both = [((1,), 1), ((0, 1), 1)]
        unlike = [((1,), 1), ((0, 1), -1)]
        self.assertEqual(poly_sum(both, unlike), [((1,), 2)])
        self.assertEqual(poly_less(both, unlike), [((0, 1), 2)])
        self.assertEqual(poly_times(both, unlike), [((2,), 1), ((0, 2), -1)])

    def test_powers_that_make_place_for_more_bits(self):
        one = [((7, 8, 7, 8, 7, 8), 1), ((0, 7), 1)]
        self.assertEqual(
            poly_times(one, one), [((14, 16, 14, 16, 14, 16), 1), ((7, 15, 7, 8, 7, 8), 2), ((0, 14), 1)]
        )

    def test_what_was_told_is_handed_in_again(self):
        told = [((1,), 1), ((0, 0, 0, 0, 0, 1), THIRTY), ((), -3)]
        worth = plain(told)
        for _ in range(3):
            worth = plain_times(told, told)
            told = poly_times(told, told)
            self.check(told, worth)


class WorthAt(Polys):
    def check_worth(self, some, place):
        told = worth_at(some, place)
        self.assertIs(told.__class__, tuple)
        self.assertEqual(told, plain_worth(some, place))

    def test_of_0_and_of_a_number(self):
        for place in ([], [(1, 2)], [(-3, 7)] * 6):
            self.assertEqual(worth_at([], place), (0, 1))
            self.assertEqual(worth_at(ONE, place), (1, 1))
            self.assertEqual(worth_at([((), -THIRTY)], place), (-THIRTY, 1))

    def test_a_place_shorter_than_the_powers(self):
        some = [((2, 1), 5), ((1,), 3), ((0, 1), 7), ((), 4)]
        self.assertEqual(worth_at(some, []), (4, 1))
        self.assertEqual(worth_at(some, [(1, 2)]), (11, 2))
        self.assertEqual(worth_at(some, [(1, 2), (2, 3)]), (11, 1))

    def test_a_place_longer_than_the_powers(self):
        self.assertEqual(worth_at([((2,), 1)], [(3, 2), (5, 7), (-1, 9), (0, 1)]), (9, 4))
        self.assertEqual(worth_at([((0, 1), 1)], [(3, 2), (5, 7), (-1, 9), (0, 1)]), (5, 7))

    def test_fractions_below_0_and_0(self):
        self.assertEqual(worth_at([((3,), 2), ((1,), 1)], [(-1, 2)]), (-3, 4))
        self.assertEqual(worth_at([((2,), 2), ((1,), 1)], [(-1, 2)]), (0, 1))
        self.assertEqual(worth_at([((2, 1), 2), ((), 1)], [(0, 1), (5, 1)]), (1, 1))
        self.assertEqual(worth_at([((0, 1), 2), ((), 1)], [(0, 1), (5, 1)]), (11, 1))

    def test_all_against_a_plain_reckoning(self):
        places = [
            [], [(2, 1)], [(-2, 3), (5, 4)], [(1, 3), (-1, 3), (1, 3)], [(0, 1)] * 6, [(-1, 1)] * 6,
            [(1, 2), (-3, 4), (5, 6), (-7, 8), (9, 10), (-11, 12)], [(THIRTY, THIRTY - 1), (-1, THIRTY)],
        ]
        for some in SOME:
            for place in places:
                self.check_worth(some, place)

    def test_each_place_stands_for_its_own_free_number(self):
        place = [(2, 1), (3, 1), (5, 1), (7, 1), (11, 1), (13, 1)]
        for k in range(6):
            self.assertEqual(worth_at([(tuple([0] * k + [2]), 1)], place), (place[k][0] ** 2, 1))

    def test_powers_far_above_the_number_of_terms(self):
        told = [((12,), 1), ((), 1)]
        for _ in range(4):
            told = poly_times(told, told)
        self.check_worth(told, [(-2, 3)])


class DividedBy(Polys):
    def test_of_a_product(self):
        for one in SOME[:-1]:
            for other in SOME[:-1]:
                product = poly_times(one, other)
                if other != []:
                    self.assertEqual(divided_by(product, other), one)
                if one != []:
                    self.assertEqual(divided_by(product, one), other)

    def test_of_a_small_product(self):
        self.assertEqual(
            divided_by([((2,), 1), ((0, 2), -1)], [((1,), 1), ((0, 1), 1)]), [((1,), 1), ((0, 1), -1)]
        )
        self.assertEqual(divided_by([((3,), 1), ((), -1)], [((1,), 1), ((), -1)]), [((2,), 1), ((1,), 1), ((), 1)])

    def test_of_what_has_no_quotient(self):
        both = [((1,), 1), ((0, 1), 1)]
        self.assertIsNone(divided_by([((2,), 1), ((0, 2), 1)], both))
        self.assertIsNone(divided_by(ONE, both))
        self.assertIsNone(divided_by([((1,), 1)], [((0, 1), 1)]))
        self.assertIsNone(divided_by([((0, 1), 1)], [((1,), 1)]))
        self.assertIsNone(divided_by([((1,), 1)], [((2,), 1)]))
        self.assertIsNone(divided_by([((2,), 1), ((1,), 1), ((), 1)], [((1,), 1)]))
        for seed in range(30):
            one = made(seed, 6, 3, 2, 9)
            other = made(seed + 100, 4, 3, 2, 9)
            if len(other) > 1:
                product = poly_times(one, other)
                self.assertIsNone(divided_by(poly_sum(product, ONE), other))
                self.assertIsNone(divided_by(poly_less(product, [((2, 1, 2), 1)]), other))

    def test_all_against_a_plain_reckoning(self):
        chance = random.Random(5)
        found = 0
        for seed in range(1500):
            one = made(seed, chance.randint(1, 4), 3, 2, 2)
            other = made(seed + 5000, chance.randint(1, 3), 3, 1, 2)
            if seed % 2:
                one = poly_times(one, other)
            if seed % 6 == 1:
                one = poly_sum(one, [((0, chance.randint(0, 1)), 1)])
            if other != []:
                told = divided_by(one, other)
                worth = plain_divided(one, other)
                if worth is None:
                    self.assertIsNone(told)
                else:
                    self.check(told, worth)
                    found += 1
        self.assertGreater(found, 100)

    def test_where_only_the_numbers_do_not_divide(self):
        self.assertIsNone(divided_by([((1,), 3)], [((1,), 2)]))
        self.assertIsNone(divided_by([((1,), 3)], [((), 2)]))
        self.assertIsNone(divided_by([((1,), 2), ((), 3)], [((), 2)]))
        self.assertIsNone(divided_by([((), 1)], [((), -2)]))
        self.assertIsNone(divided_by([((1,), THIRTY), ((), 1)], [((), THIRTY)]))
        # Half a free number and a half would be the quotient.
        self.assertIsNone(divided_by([((2,), 1), ((1,), 2), ((), 1)], [((1,), 2), ((), 2)]))

    def test_numbers_below_0(self):
        self.assertEqual(divided_by([((1,), -6)], [((), 3)]), [((1,), -2)])
        self.assertEqual(divided_by([((1,), -6)], [((), -3)]), [((1,), 2)])
        self.assertEqual(divided_by([((1,), 6)], [((), -3)]), [((1,), -2)])

    def test_of_0(self):
        for other in SOME:
            if other != []:
                self.assertEqual(divided_by([], other), [])

    def test_by_one_term_and_by_a_number(self):
        term = [((1, 0, 2), -3)]
        for one in SOME:
            self.assertEqual(divided_by(poly_times(one, term), term), one)
            self.assertEqual(divided_by(one, ONE), one)
            self.assertEqual(divided_by(one, [((), -1)]), poly_less([], one))

    def test_by_itself(self):
        for one in SOME:
            if one != []:
                self.assertEqual(divided_by(one, one), ONE)

    def test_by_0_is_refused(self):
        for one in SOME:
            with self.assertRaises(NoBottom):
                divided_by(one, [])

    def test_numbers_that_fall_to_0_on_the_way(self):
        # Between the first and the last one all terms of the product are 0, and the quotient's come up again.
        one = poly_of([((k,), 1) for k in range(12)])
        other = [((1,), 1), ((), -1)]
        self.assertEqual(poly_times(one, other), [((12,), 1), ((), -1)])
        self.assertEqual(divided_by([((12,), 1), ((), -1)], other), one)
        self.assertEqual(divided_by([((12,), 1), ((), -1)], one), other)

    def test_a_division_that_does_not_come_out_ends(self):
        other = [((1,), 1)] + [(tuple([0] * k + [1]), -1) for k in range(1, 6)] + [((), -1)]
        one = [((4,), 1), ((0, 4, 4, 4, 4, 4), 1)]
        self.check_form(one)
        self.check_form(other)
        self.assertIsNone(divided_by(one, other))

    def test_what_was_told_is_divided(self):
        one = [((1,), 1), ((0, 1), 2), ((0, 0, 1), -3), ((), 5)]
        told = [ONE]
        for k in range(8):
            told.append(poly_times(told[k], one))
        self.assertEqual(divided_by(told[8], told[4]), told[4])
        self.assertEqual(divided_by(told[8], told[7]), one)
        self.assertIsNone(divided_by(told[4], told[8]))


class TheAskersOwn(Polys):
    ONE_OF_TWO = [((2,), 1), ((1, 1), 2), ((0, 2), 1)]
    OTHER_OF_TWO = [((1,), 1), ((0, 1), 1)]
    LOOSE = [((1, 0), 2), ((0, 0), 3), ((1,), 4), ((2,), 0)]
    PLACE = [(1, 2), (-3, 4)]

    def asked(self):
        one = self.ONE_OF_TWO
        other = self.OTHER_OF_TWO
        return [
            (poly_of, [self.LOOSE]), (poly_of, [one]), (poly_of, [[]]),
            (poly_sum, [one, other]), (poly_sum, [one, []]), (poly_sum, [[], one]), (poly_sum, [[], []]),
            (poly_less, [one, other]), (poly_less, [one, []]), (poly_less, [[], one]), (poly_less, [[], []]),
            (poly_times, [one, other]), (poly_times, [one, ONE]), (poly_times, [ONE, one]), (poly_times, [[], []]),
            (divided_by, [one, other]), (divided_by, [one, ONE]), (divided_by, [[], ONE]),
        ]

    def test_what_is_handed_in_stays_as_it_was(self):
        for ask, handed in self.asked() + [(worth_at, [self.ONE_OF_TWO, self.PLACE])]:
            mine = deepcopy(handed)
            ask(*mine)
            self.assertEqual(mine, handed, ask.__name__)
        mine = deepcopy(self.ONE_OF_TWO)
        self.assertIsNone(divided_by(mine, [((1,), 5)]))
        self.assertEqual(mine, self.ONE_OF_TWO)

    def test_a_told_list_that_is_changed_changes_nothing_else(self):
        for ask, handed in self.asked():
            mine = deepcopy(handed)
            told = ask(*mine)
            before = deepcopy(told)
            told.append(((9,), 9))
            told.insert(0, ((11,), 1))
            self.assertEqual(mine, handed, ask.__name__)
            self.assertEqual(ask(*mine), before, ask.__name__)

    def test_a_list_changed_behind_the_call_changes_nothing_told(self):
        for ask, handed in self.asked():
            mine = deepcopy(handed)
            told = ask(*mine)
            before = deepcopy(told)
            for some in mine:
                some.append(((9,), 9))
                some[0] = ((8,), 8)
            self.assertEqual(told, before, ask.__name__)

    def test_one_list_handed_in_twice(self):
        mine = deepcopy(self.ONE_OF_TWO)
        self.assertEqual(poly_less(mine, mine), [])
        self.assertEqual(divided_by(mine, mine), ONE)
        self.assertEqual(divided_by(poly_times(mine, mine), mine), mine)
        self.assertEqual(poly_sum(mine, mine), [((2,), 2), ((1, 1), 4), ((0, 2), 2)])
        self.assertEqual(mine, self.ONE_OF_TWO)

    def test_the_same_is_told_again(self):
        for ask, handed in self.asked() + [(worth_at, [self.ONE_OF_TWO, self.PLACE])]:
            first = deepcopy(ask(*handed))
            self.assertEqual(ask(*deepcopy(handed)), first)
            self.assertEqual(ask(*handed), first)


if __name__ == "__main__":
    unittest.main()

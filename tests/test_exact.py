"""Point 15: drawings drawn exactly; and points 2 and 4, as far as they speak of them."""

import random
import unittest
from copy import deepcopy
from fractions import Fraction
from itertools import product
from math import gcd

import plain as by_hand
from everydraw.drawings import freedoms_of, kinds_of, musts_of, paper_of
from everydraw.errors import BadPlace, BadStep, BadThing, CantMake, TooMany
from everydraw.exact import drawn_at, first_made, undone_at
from everydraw.polys import worth_at
from examples import ALL_WORDS, CURVES, DRAWINGS, FREE, NOWHERE, O, P, PARTS, Q, SIX_FREE, SLIDES
from plain import THIRTY, check_own


def fraction(some):
    return (some.numerator, some.denominator)


def places_for(steps, count, seed):
    """The places that lie near, and chance ones, some of them with noughts and with like numbers."""
    chance = random.Random(seed)
    freedoms = freedoms_of(steps)
    found = [[(number, 1)] * freedoms for number in (0, 1)]
    for _ in range(count):
        found.append([
            fraction(Fraction(chance.randint(-3, 3), chance.choice([1, 1, 1, 2, 5]))) for _ in range(freedoms)
        ])
    return found


# By hand: the raw rules over Python's fractions, and what they show.

def fractions_at(steps, place):
    """The things up to the first step that isn't made."""
    things = []
    for step, frees in zip(steps, by_hand.frees_of(steps)):
        entries = [Fraction(*place[k]) for k in frees]
        raw = [Fraction(one) for one in by_hand.raw_by(step, things, entries)]
        musts = by_hand.musts_by(step, things, raw)
        if musts and not any(musts):
            return things
        things.append(tuple(raw))
    return things


def without_divisor(numbers):
    bottom = 1
    for one in numbers:
        bottom = bottom * one.denominator // gcd(bottom, one.denominator)
    whole = [int(one * bottom) for one in numbers]
    common = gcd(*whole)
    sign = next(1 if one > 0 else -1 for one in whole if one != 0)
    return tuple(sign * one // common for one in whole)


def shown(kind, thing):
    if kind == "point":
        x, y, w = thing
        return (kind, fraction(x / w), fraction(y / w))
    if kind == "circle":
        k, d, e, f = thing
        x, y = -d / k / 2, -e / k / 2
        return (kind, fraction(x), fraction(y), fraction(x * x + y * y - f / k))
    return (kind,) + without_divisor(thing)


class Exact(unittest.TestCase):
    def check(self, steps, place):
        things = fractions_at(steps, place)
        undone = len(things) if len(things) < len(steps) else None
        self.assertEqual(undone_at(steps, place), undone)
        if undone is None:
            told = drawn_at(steps, place)
            self.assertEqual(told, [shown(kind, thing) for kind, thing in zip(kinds_of(steps), things)])
            self.assertIs(told.__class__, list)
            for one in told:
                self.assertIs(one.__class__, tuple)
        else:
            with self.assertRaises(CantMake) as caught:
                drawn_at(steps, place)
            self.assertIs(caught.exception.__class__, CantMake)
            self.assertEqual(caught.exception.step, undone)
        return undone


class DrawnAt(Exact):
    def test_the_empty_drawing(self):
        self.assertEqual(drawn_at([], []), [])
        self.assertIsNone(undone_at([], []))

    def test_points(self):
        self.assertEqual(drawn_at([FREE], [(1, 2), (-3, 4)]), [("point", (1, 2), (-3, 4))])
        self.assertEqual(drawn_at([("told", (-2, 3), (0, 1))], []), [("point", (-2, 3), (0, 1))])
        self.assertEqual(
            drawn_at([FREE, ("told", (1, 1), (1, 1)), ("part", 0, 1, (1, 2)), ("slide", 0, 1)],
                     [(3, 1), (0, 1), (-1, 1)]),
            [("point", (3, 1), (0, 1)), ("point", (1, 1), (1, 1)), ("point", (2, 1), (1, 2)),
             ("point", (5, 1), (-1, 1))],
        )

    def test_lines(self):
        # x + 2 y = 4, told with the first number above 0 whichever way it was laid.
        ends = [("told", (4, 1), (0, 1)), ("told", (0, 1), (2, 1))]
        for line in (("through", 0, 1), ("through", 1, 0)):
            self.assertEqual(drawn_at(ends + [line], [])[2], ("line", 1, 2, -4))
        # y = 1 and x = 1/2: the first number that isn't 0.
        level = [("told", (0, 1), (1, 1)), ("told", (5, 1), (1, 1))]
        for line in (("through", 0, 1), ("through", 1, 0)):
            self.assertEqual(drawn_at(level + [line], [])[2], ("line", 0, 1, -1))
        upright = [("told", (1, 2), (1, 1)), ("told", (1, 2), (7, 3)), ("through", 0, 1)]
        self.assertEqual(drawn_at(upright, [])[2], ("line", 2, 0, -1))
        self.assertEqual(drawn_at([O, P, ("through", 0, 1), ("square", 0, 2)], [])[3], ("line", 1, 0, 0))

    def test_circles(self):
        self.assertEqual(
            drawn_at([FREE, ("told", (1, 2), (1, 1)), ("round", 1, 0)], [(7, 2), (5, 1)])[2],
            ("circle", (1, 2), (1, 1), (25, 1)),
        )
        self.assertEqual(drawn_at([O, P, Q, ("round3", 0, 1, 2)], [])[3], ("circle", (1, 2), (1, 2), (1, 2)))
        self.assertEqual(drawn_at([O, P, Q, ("round3", 2, 1, 0)], [])[3], ("circle", (1, 2), (1, 2), (1, 2)))
        # The circle around (0, 0) through (1, 0), mirrored in the line x + y = 1.
        steps = [O, P, Q, ("round", 0, 1), ("through", 1, 2), ("mirroredround", 3, 4)]
        self.assertEqual(drawn_at(steps, [])[5], ("circle", (1, 1), (1, 1), (1, 1)))

    def test_the_width_is_above_0(self):
        for steps in DRAWINGS:
            for place in places_for(steps, 40, 3):
                if undone_at(steps, place) is None:
                    for one in drawn_at(steps, place):
                        if one[0] == "circle":
                            self.assertGreater(one[3][0], 0)

    def test_curves(self):
        # Five points of the curve x x = y, whichever way they are named.
        five = [("told", (x, 1), (x * x, 1)) for x in (1, -1, 2, -2, 0)]
        for order in ((0, 1, 2, 3, 4), (4, 3, 2, 1, 0), (1, 0, 2, 4, 3)):
            self.assertEqual(drawn_at(five + [("five",) + order], [])[5], ("curve", 1, 0, 0, 0, -1, 0))
        # Five points of the circle x x + y y = 25.
        five = [("told", (x, 1), (y, 1)) for x, y in ((5, 0), (0, 5), (3, 4), (-4, 3), (0, -5))]
        self.assertEqual(drawn_at(five + [("five", 0, 1, 2, 3, 4)], [])[5], ("curve", 1, 0, 1, 0, 0, -25))
        # Two lines, x y = 0: the first number that isn't 0 is the second one.
        five = [("told", (x, 1), (y, 1)) for x, y in ((1, 0), (0, 1), (2, 0), (0, 2), (3, 0))]
        self.assertEqual(drawn_at(five + [("five", 0, 1, 2, 3, 4)], [])[5], ("curve", 0, 1, 0, 0, 0, 0))

    def test_each_drawing_at_many_places(self):
        made = 0
        for steps in DRAWINGS:
            # By hand, without anything divided out, the numbers of parts of parts are very long.
            for place in places_for(steps, 0 if steps == PARTS else 60, len(steps)):
                made += self.check(steps, place) is None
        self.assertGreater(made, 150)

    def test_places_of_thirty_figures(self):
        for steps in (SIX_FREE, CURVES, SLIDES):
            place = [(THIRTY - 2 * k, THIRTY - 1 - 2 * k) for k in range(freedoms_of(steps))]
            self.assertTrue(all(gcd(top, bottom) == 1 for top, bottom in place))
            self.check(steps, place)
        self.assertIsNone(self.check([FREE, O, ("through", 0, 1)], [(-THIRTY, 1), (1, THIRTY)]))

    def test_parts_of_parts(self):
        self.assertIsNone(self.check(PARTS, [(1, 1), (2, 1), (3, 1), (5, 7)]))

    def test_what_is_drawn_is_what_the_paper_tells(self):
        for steps in (ALL_WORDS, CURVES, SIX_FREE, SLIDES, PARTS):
            paper = paper_of(steps)
            for place in places_for(steps, 10, 8):
                if undone_at(steps, place) is None:
                    for one, kind, (share, thing) in zip(drawn_at(steps, place), kinds_of(steps), paper):
                        self.assertNotEqual(worth_at(share, place), (0, 1))
                        self.assertEqual(one, shown(kind, [Fraction(*worth_at(some, place)) for some in thing]))


class UndoneAt(Exact):
    """Each step with musts, where it is made and where it isn't."""

    def test_through(self):
        steps = [FREE, O, ("through", 0, 1), P]
        self.assertEqual(self.check(steps, [(0, 1), (0, 1)]), 2)
        self.assertIsNone(self.check(steps, [(0, 1), (1, 9)]))
        self.assertIsNone(self.check(steps, [(1, 9), (0, 1)]))

    def test_meet(self):
        steps = [FREE, O, P, Q, ("through", 1, 2), ("through", 3, 0), ("meet", 4, 5)]
        self.assertEqual(self.check(steps, [(5, 1), (1, 1)]), 6)
        self.assertEqual(self.check(steps, [(0, 1), (1, 1)]), 5)
        self.assertIsNone(self.check(steps, [(5, 1), (2, 1)]))
        self.assertEqual(self.check([O, P, ("through", 0, 1), ("meet", 2, 2)], []), 3)

    def test_centre(self):
        # A circle is never without a middle where it is made; a curve is, where it is none of the kinds that have one.
        five = [("told", (x, 1), (x * x, 1)) for x in (1, -1, 2, -2)] + [FREE, ("five", 0, 1, 2, 3, 4), ("centre", 5)]
        self.assertEqual(self.check(five, [(0, 1), (0, 1)]), 6)
        self.assertEqual(self.check(five, [(3, 1), (9, 1)]), 6)
        self.assertIsNone(self.check(five, [(0, 1), (-1, 1)]))
        self.assertIsNone(self.check([FREE, O, ("round", 1, 0), ("centre", 2)], [(1, 1), (1, 1)]))

    def test_again(self):
        circle = [FREE, O, P, ("round", 1, 2), ("through", 2, 0), ("again", 3, 4, 2)]
        self.assertEqual(self.check(circle, [(1, 1), (0, 1)]), 4)
        self.assertIsNone(self.check(circle, [(5, 1), (1, 1)]))
        # Where the line touches, the second meet is the point again.
        self.assertIsNone(self.check(circle, [(1, 1), (7, 1)]))
        self.assertEqual(drawn_at(circle, [(1, 1), (7, 1)])[5], ("point", (1, 1), (0, 1)))
        # An upright line has no second meet with x x = y.
        five = [("told", (x, 1), (x * x, 1)) for x in (1, -1, 2, -2, 0)]
        curve = five + [("five", 0, 1, 2, 3, 4), FREE, ("through", 6, 4), ("again", 5, 7, 4)]
        self.assertEqual(self.check(curve, [(0, 1), (1, 1)]), 8)
        self.assertIsNone(self.check(curve, [(3, 1), (3, 1)]))
        self.assertEqual(drawn_at(curve, [(3, 1), (6, 1)])[8], ("point", (2, 1), (4, 1)))

    def test_roll(self):
        # On x y = 1 a way that is level has no second meet; on a circle each way has one.
        five = [("told", (x, y), (y, x)) for x, y in ((1, 1), (2, 1), (1, 2), (3, 1))] + [("told", (-1, 1), (-1, 1))]
        steps = five + [("five", 0, 1, 2, 3, 4), ("roll", 5, 0)]
        self.assertEqual(self.check(steps, [(0, 1)]), 6)
        self.assertIsNone(self.check(steps, [(-1, 2)]))
        self.assertEqual(drawn_at(steps, [(-1, 2)])[6], ("point", (2, 1), (1, 2)))
        circle = [O, P, ("round", 0, 1), ("roll", 2, 1)]
        for t in ((0, 1), (1, 1), (-7, 3), (1, 10**6)):
            self.assertIsNone(self.check(circle, [t]))

    def test_polar_and_touch(self):
        circle = [FREE, O, P, ("round", 1, 2), ("polar", 3, 0), ("touch", 3, 2)]
        self.assertEqual(self.check(circle, [(0, 1), (0, 1)]), 4)
        self.assertIsNone(self.check(circle, [(0, 1), (1, 5)]))
        # At the point where two lines of a curve meet no line touches.
        five = [("told", (x, 1), (y, 1)) for x, y in ((1, 0), (2, 0), (0, 1), (0, 2))]
        steps = five + [FREE, ("five", 0, 1, 2, 3, 4), ("touch", 5, 4)]
        self.assertEqual(self.check(steps, [(0, 1), (0, 1)]), 6)
        self.assertIsNone(self.check(steps, [(3, 1), (0, 1)]))

    def test_axis(self):
        steps = [FREE, O, P, ("round", 1, 2), ("round", 0, 2), ("axis", 3, 4)]
        self.assertEqual(self.check(steps, [(0, 1), (0, 1)]), 5)
        self.assertEqual(self.check(steps, [(1, 1), (0, 1)]), 4)
        self.assertIsNone(self.check(steps, [(0, 1), (1, 1)]))
        self.assertEqual(self.check([O, P, ("round", 0, 1), ("axis", 2, 2)], []), 3)

    def test_round_and_round3(self):
        self.assertEqual(self.check([FREE, O, ("round", 1, 0)], [(0, 1), (0, 1)]), 2)
        self.assertIsNone(self.check([FREE, O, ("round", 1, 0)], [(0, 1), (1, 1)]))
        steps = [FREE, O, P, ("round3", 0, 1, 2)]
        self.assertEqual(self.check(steps, [(7, 3), (0, 1)]), 3)
        self.assertEqual(self.check(steps, [(0, 1), (0, 1)]), 3)
        self.assertIsNone(self.check(steps, [(7, 3), (1, 3)]))

    def test_five(self):
        steps = [FREE, O, P, ("told", (2, 1), (0, 1)), ("told", (3, 1), (0, 1)), ("five", 0, 1, 2, 3, 4)]
        self.assertEqual(self.check(steps, [(1, 1), (1, 1)]), 5)
        steps = [FREE, O, P, Q, ("told", (3, 1), (5, 1)), ("five", 0, 1, 2, 3, 4)]
        self.assertEqual(self.check(steps, [(0, 1), (0, 1)]), 5)
        self.assertEqual(self.check(steps, [(1, 1), (0, 1)]), 5)
        self.assertIsNone(self.check(steps, [(1, 1), (1, 1)]))

    def test_words_without_musts_are_always_made(self):
        steps = [FREE, O, P, ("through", 1, 2), ("foot", 0, 3), ("mirrored", 0, 3), ("side", 0, 3), ("square", 0, 3),
                 ("part", 0, 0, (1, 2)), ("slide", 0, 0), ("round", 1, 2), ("mirroredround", 10, 3)]
        for place in product([(0, 1), (1, 1), (-1, 2)], repeat=3):
            self.assertIsNone(self.check(steps, list(place)))

    def test_the_first_of_several(self):
        self.assertEqual(self.check([FREE, O, ("through", 0, 1), ("round", 0, 1)], [(0, 1), (0, 1)]), 2)
        self.assertEqual(self.check(NOWHERE, [(1, 1), (2, 1)]), 2)
        self.assertEqual(self.check([O, ("through", 0, 0), P], []), 1)

    def test_by_the_musts_of_the_paper(self):
        for steps in DRAWINGS:
            musts = musts_of(steps, paper_of(steps))
            for place in places_for(steps, 30, 21):
                due = None
                for k in reversed(range(len(steps))):
                    if musts[k] and all(worth_at(some, place) == (0, 1) for some in musts[k]):
                        due = k
                self.assertEqual(undone_at(steps, place), due)


class Refusals(Exact):
    def refused(self, steps, place, refusal):
        before = deepcopy((steps, place))
        for ask in (drawn_at, undone_at):
            with self.assertRaises(refusal) as caught:
                ask(steps, place)
            self.assertIs(caught.exception.__class__, refusal)
        self.assertEqual((steps, place), before)

    def test_bad_place(self):
        one = (1, 2)
        for steps, right in (([FREE], 2), ([FREE, FREE, ("slide", 0, 1)], 5), (SIX_FREE, 6), ([], 0), ([O], 0)):
            for count in range(9):
                if count != right:
                    self.refused(steps, [one] * count, BadPlace)
        wrong = [
            (2, 4), (0, 2), (1, 0), (1, -2), (0, 0), (1,), (), (1, 2, 3), [1, 2], 1, None, "1/2", True, (True, 1),
            (1, True), (False, 1), ("1", 2), (1, None), 0.5, (0.5, 1), ((1, 2), (1, 2)),
        ]
        for some in wrong:
            self.refused([FREE], [some, one], BadPlace)
            self.refused([FREE], [one, some], BadPlace)
            self.refused([FREE], [one, one, some], BadPlace)

    def test_fractions_that_are_none_to_spare(self):
        # A place of all fractions is no bad one, whatever their figures.
        self.assertIsNone(undone_at([FREE], [(THIRTY, THIRTY - 1), (-THIRTY, 1)]))

    def test_behind_the_refusals_of_the_drawing(self):
        for steps, refusal in (
            ([O] * 25, TooMany), ([("nothing",)], BadStep), ([FREE, ("through", 0, 5)], BadThing),
        ):
            for place in ([], None, [(1, 2), (2, 4)], [(1, 2)] * 2):
                self.refused(steps, place, refusal)

    def test_ahead_of_cant_make(self):
        steps = [FREE, ("through", 0, 0)]
        for place in ([], [(0, 1)], [(0, 1)] * 3, [(0, 1), (2, 2)]):
            self.refused(steps, place, BadPlace)
        self.assertEqual(self.check(steps, [(0, 1), (0, 1)]), 1)

    def test_behind_a_refusal(self):
        steps, place = [FREE, O, ("through", 0, 1)], [(1, 2), (3, 1)]
        before = deepcopy((drawn_at(steps, place), undone_at(steps, place), first_made(steps, 2)))
        self.refused(steps, [(1, 2)], BadPlace)
        with self.assertRaises(CantMake):
            drawn_at(steps, [(0, 1), (0, 1)])
        self.assertEqual((drawn_at(steps, place), undone_at(steps, place), first_made(steps, 2)), before)


class FirstMade(Exact):
    def by_hand(self, steps, most):
        places = [list(numbers) for numbers in product(range(most + 1), repeat=freedoms_of(steps))]
        for numbers in sorted(places, key=lambda numbers: (max(numbers, default=0), numbers)):
            place = [(number, 1) for number in numbers]
            if len(fractions_at(steps, place)) == len(steps):
                return place
        return None

    def test_without_free_numbers(self):
        for most in (0, 1, 2):
            self.assertEqual(first_made([], most), [])
            self.assertEqual(first_made([O, P, ("through", 0, 1)], most), [])
            self.assertIsNone(first_made([O, ("through", 0, 0)], most))
            self.assertIsNone(first_made([O, P, ("through", 0, 1), ("meet", 2, 2)], most))

    def test_the_least_greatest_number_goes_ahead(self):
        self.assertEqual(first_made([FREE], 2), [(0, 1), (0, 1)])
        steps = [FREE, O, ("through", 0, 1)]
        self.assertIsNone(first_made(steps, 0))
        self.assertEqual(first_made(steps, 1), [(0, 1), (1, 1)])
        self.assertEqual(first_made(steps, 2), [(0, 1), (1, 1)])
        # [1, 0] is the first one of the lists with 1, ahead of [0, 2].
        steps = [FREE, O, Q, ("through", 1, 2), ("round3", 0, 1, 2)]
        self.assertEqual(first_made(steps, 2), [(1, 1), (0, 1)])

    def test_where_2_has_to_come_in(self):
        # A free point that is unlike four told ones.
        steps = [FREE, O, P, Q, ("told", (1, 1), (1, 1))] + [("through", 0, k) for k in (1, 2, 3, 4)]
        self.assertIsNone(first_made(steps, 0))
        self.assertIsNone(first_made(steps, 1))
        self.assertEqual(first_made(steps, 2), [(0, 1), (2, 1)])
        steps += [("told", (0, 1), (2, 1)), ("told", (1, 1), (2, 1)), ("through", 0, 9), ("through", 0, 10)]
        self.assertEqual(first_made(steps, 2), [(2, 1), (0, 1)])
        steps += [("told", (2, 1), (k, 1)) for k in (0, 1, 2)] + [("through", 0, k) for k in (13, 14, 15)]
        self.assertIsNone(first_made(steps, 2))

    def test_against_all_places(self):
        for steps in DRAWINGS:
            for most in (0, 1, 2):
                told = first_made(steps, most)
                self.assertEqual(told, self.by_hand(steps, most))
                if told is not None:
                    self.assertIsNone(undone_at(steps, told))

    def test_chance_drawings(self):
        chance = random.Random(4)
        found = set()
        for _ in range(60):
            steps = [FREE, FREE] + [chance.choice([O, P, Q, ("told", (1, 1), (1, 1))]) for _ in range(3)]
            for _ in range(8):
                steps.append(chance.choice(["through", "round"]))
                steps[-1] = (steps[-1],) + tuple(chance.sample(range(5), 2))
            told = first_made(steps, 2)
            self.assertEqual(told, self.by_hand(steps, 2))
            found.add(tuple(told) if told is not None else None)
        self.assertGreater(len(found), 5)


class TheAskersOwn(unittest.TestCase):
    def test_what_is_handed_in_and_what_is_told(self):
        for steps in DRAWINGS:
            for most in (0, 2):
                check_own(self, first_made, [steps, most])
            for place in places_for(steps, 6, 2):
                check_own(self, undone_at, [steps, place])
                if undone_at(steps, place) is None:
                    check_own(self, drawn_at, [steps, place])


if __name__ == "__main__":
    unittest.main()

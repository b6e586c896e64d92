"""Point 9: raw rules of points and lines; and points 2, 5 and 6, as far as these rest on them."""

import unittest
from fractions import Fraction
from math import gcd

import plain as by_hand
from everydraw.lines import (
    foot_point, free_point, meet_point, mirrored_point, part_point, side_line, slide_point, square_line, through_line,
    told_point,
)
from everydraw.polys import worth_at
from plain import TEN, THIRTY, check_form, check_own, check_rule, free, made, made_thing, on_line, plain, plains

ONE = [((), 1)]
# Points and lines alike: any tuple of three polynomials is one.
THINGS = [
    made_thing(1, 3, 3, 2, 2, 9),
    made_thing(2, 3, 4, 3, 2, TEN),
    made_thing(3, 3, 5, 4, 3, 10**14),
    made_thing(4, 3, 2, 1, 4, THIRTY),
    ([((1,), 1)], [((0, 1), 1)], ONE),
    (made(5, 4, 4, 2, 99), [], [((), -TEN)]),
    ([], made(6, 3, 2, 2, 9), ONE),
    (made(7, 3, 3, 1, 9), made(8, 3, 3, 1, 9), []),
    ([((), 3)], [((), -5)], [((), 7)]),
    ([], [], ONE),
    ([], [], []),
    ([((1,), 1)], [((1,), 1)], [((1,), 1)]),
]
FRACTIONS = [(0, 1), (1, 1), (-1, 2), (7, 3), (THIRTY, THIRTY - 1), (-THIRTY, 10**29 + 7), (1, THIRTY), (TEN, 1)]


def pairs():
    return [(one, other) for one in THINGS for other in THINGS]


class Rules(unittest.TestCase):
    def test_the_fractions_are_fractions(self):
        for top, bottom in FRACTIONS:
            self.assertEqual(gcd(top, bottom), 1)

    def test_free_point(self):
        for u in range(6):
            for v in range(u + 1, 6):
                check_rule(self, free_point, [u, v], by_hand.free_raw(free(u), free(v)))
        self.assertEqual(free_point(0, 1), ([((1,), 1)], [((0, 1), 1)], [((), 1)]))
        self.assertEqual(free_point(2, 5), ([((0, 0, 1), 1)], [((0, 0, 0, 0, 0, 1), 1)], [((), 1)]))

    def test_told_point(self):
        for f in FRACTIONS:
            for g in FRACTIONS:
                check_rule(self, told_point, [f, g], by_hand.told_raw(f, g))
        self.assertEqual(told_point((1, 2), (-3, 5)), ([((), 5)], [((), -6)], [((), 10)]))
        self.assertEqual(told_point((0, 1), (0, 1)), ([], [], [((), 1)]))
        self.assertEqual(told_point((0, 1), (2, 3)), ([], [((), 2)], [((), 3)]))

    def test_slide_point(self):
        for one, other in pairs():
            for t in (0, 3, 5):
                check_rule(self, slide_point, [one, other, t], by_hand.slide_raw(plains(one), plains(other), free(t)))
        for t in range(6):
            handed = [free_point(0, 1), free_point(2, 3), t]
            check_rule(self, slide_point, handed, by_hand.slide_raw(plains(handed[0]), plains(handed[1]), free(t)))
        self.assertEqual(
            slide_point(free_point(0, 1), told_point((1, 1), (0, 1)), 0),
            ([((2,), -1), ((1,), 2)], [((1, 1), -1), ((0, 1), 1)], [((), 1)]),
        )

    def test_through_line(self):
        for one, other in pairs():
            check_rule(self, through_line, [one, other], by_hand.through_raw(plains(one), plains(other)))
        self.assertEqual(
            through_line(free_point(0, 1), told_point((2, 1), (3, 1))),
            ([((0, 1), 1), ((), -3)], [((1,), -1), ((), 2)], [((1,), 3), ((0, 1), -2)]),
        )

    def test_meet_point(self):
        for one, other in pairs():
            check_rule(self, meet_point, [one, other], by_hand.meet_raw(plains(one), plains(other)))
        # x = 2 and y = 3.
        self.assertEqual(
            meet_point((ONE, [], [((), -2)]), ([], ONE, [((), -3)])), ([((), 2)], [((), 3)], [((), 1)])
        )

    def test_side_line(self):
        for one, other in pairs():
            check_rule(self, side_line, [one, other], by_hand.side_raw(plains(one), plains(other)))

    def test_square_line(self):
        for one, other in pairs():
            check_rule(self, square_line, [one, other], by_hand.square_raw(plains(one), plains(other)))
        # Through a free point, square to the line y = 0.
        self.assertEqual(
            square_line(free_point(0, 1), ([], ONE, [])), ([((), -1)], [], [((1,), 1)])
        )

    def test_foot_point(self):
        for one, other in pairs():
            check_rule(self, foot_point, [one, other], by_hand.foot_raw(plains(one), plains(other)))
        self.assertEqual(foot_point(free_point(0, 1), ([], ONE, [])), ([((1,), 1)], [], [((), 1)]))

    def test_part_point(self):
        for one, other in pairs():
            for f in ((0, 1), (-2, 3), FRACTIONS[5]):
                check_rule(self, part_point, [one, other, f], by_hand.part_raw(plains(one), plains(other), f))
        for f in FRACTIONS:
            handed = [THINGS[0], THINGS[2], f]
            check_rule(self, part_point, handed, by_hand.part_raw(plains(handed[0]), plains(handed[1]), f))
        self.assertEqual(
            part_point(free_point(0, 1), free_point(2, 3), (1, 3)),
            ([((1,), 2), ((0, 0, 1), 1)], [((0, 1), 2), ((0, 0, 0, 1), 1)], [((), 3)]),
        )

    def test_mirrored_point(self):
        for one, other in pairs():
            check_rule(self, mirrored_point, [one, other], by_hand.mirrored_raw(plains(one), plains(other)))
        self.assertEqual(
            mirrored_point(free_point(0, 1), ([], ONE, [])), ([((1,), 1)], [((0, 1), -1)], [((), 1)])
        )

    def test_the_same_thing_handed_in_as_both(self):
        for thing in THINGS:
            same = plains(thing)
            self.assertEqual(through_line(thing, thing), ([], [], []))
            self.assertEqual(meet_point(thing, thing), ([], [], []))
            whole = (same[0] * same[2], same[1] * same[2], same[2] * same[2])
            self.assertEqual(slide_point(thing, thing, 1), by_hand.told(whole))
            self.assertEqual(part_point(thing, thing, (2, 3)), by_hand.told([3 * one for one in whole]))
            for rule, raw in (
                (side_line, by_hand.side_raw), (square_line, by_hand.square_raw), (foot_point, by_hand.foot_raw),
                (mirrored_point, by_hand.mirrored_raw),
            ):
                self.assertEqual(rule(thing, thing), by_hand.told(raw(same, same)))


def middle_of(one, other):
    return part_point(one, other, (1, 2))


class Together(unittest.TestCase):
    POINTS = [free_point(0, 1), free_point(2, 3), told_point((-3, 2), (TEN, 7))] + THINGS[:4]
    LINES = [through_line(free_point(0, 3), told_point((1, 2), (5, 1)))] + THINGS[:4]

    def on(self, i, l):
        self.assertEqual(on_line(plains(i), plains(l)), 0)

    def alike(self, one, other):
        """The same up to a common product."""
        for first in range(3):
            for second in range(3):
                self.assertEqual(plain(one[first]) * plain(other[second]), plain(one[second]) * plain(other[first]))
        self.assertTrue(any(one) and any(other))

    def test_the_line_through_two_points(self):
        for one in self.POINTS:
            for other in self.POINTS:
                line = through_line(one, other)
                for point in (one, other, slide_point(one, other, 4), part_point(one, other, (-3, 7))):
                    self.on(point, line)

    def test_the_meet_of_two_lines(self):
        for one in self.LINES:
            for other in self.LINES:
                self.on(meet_point(one, other), one)
                self.on(meet_point(one, other), other)

    def test_lines_side_by_side_and_square(self):
        for point in self.POINTS:
            for line in self.LINES:
                self.on(point, side_line(point, line))
                self.on(point, square_line(point, line))
                (a, b, c), (a2, b2, c2) = plains(line), plains(side_line(point, line))
                self.assertEqual(a * b2 - b * a2, 0)
                (a, b, c), (a2, b2, c2) = plains(line), plains(square_line(point, line))
                self.assertEqual(a * a2 + b * b2, 0)

    def test_the_foot_and_the_way_half_to_the_mirrored_point(self):
        for point in self.POINTS:
            for line in self.LINES:
                foot = foot_point(point, line)
                self.on(foot, line)
                self.on(foot, square_line(point, line))
                half = middle_of(point, mirrored_point(point, line))
                self.on(half, line)
                self.alike(half, foot)

    def test_mirroring_twice(self):
        for point in self.POINTS:
            for line in self.LINES:
                self.alike(mirrored_point(mirrored_point(point, line), line), point)


PLACES = [
    [], [(1, 2)], [(1, 2), (-3, 4), (5, 3), (2, 7)], [(0, 1), (0, 1), (1, 1), (-1, 1), (2, 1), (3, 1)],
    [(-7, 2), (1, 5), (0, 1), (9, 4), (-1, 6), (1, 3)], [(2, 1), (-2, 1), (3, 1), (1, 1)],
]


def at(thing, place):
    return [Fraction(*worth_at(some, place)) for some in thing]


class AtPlaces(unittest.TestCase):
    """By worth_at: what plain fractions make of the rules."""

    def where(self, thing, place):
        for some in thing:
            top, bottom = worth_at(some, place)
            self.assertTrue(top.__class__ is int and bottom.__class__ is int and bottom >= 1 and gcd(top, bottom) == 1)
        x, y, w = at(thing, place)
        return (x / w, y / w) if w != 0 else None

    def both(self):
        for one in THINGS[:9]:
            for other in THINGS[:9]:
                for place in PLACES:
                    yield one, other, place

    def test_of_two_points(self):
        count = 0
        for one, other, place in self.both():
            first, second = self.where(one, place), self.where(other, place)
            if first is not None and second is not None:
                count += 1
                for part, thing in (
                    ((-2, 5), part_point(one, other, (-2, 5))),
                    ((0, 1), part_point(one, other, (0, 1))),
                    (place[1] if len(place) > 1 else (0, 1), slide_point(one, other, 1)),
                ):
                    t = Fraction(*part)
                    self.assertEqual(
                        self.where(thing, place), tuple(p + t * (q - p) for p, q in zip(first, second))
                    )
                a, b, c = at(through_line(one, other), place)
                for x, y in (first, second):
                    self.assertEqual(a * x + b * y + c, 0)
                self.assertEqual((a, b) == (0, 0), first == second)
        self.assertGreater(count, 100)

    def test_of_a_point_and_a_line(self):
        count = 0
        for one, other, place in self.both():
            point, (a, b, c) = self.where(one, place), at(other, place)
            if point is not None and (a, b) != (0, 0):
                count += 1
                x, y = point
                far = (a * x + b * y + c) / (a * a + b * b)
                self.assertEqual(self.where(foot_point(one, other), place), (x - a * far, y - b * far))
                self.assertEqual(self.where(mirrored_point(one, other), place), (x - 2 * a * far, y - 2 * b * far))
                w = at(one, place)[2]
                self.assertEqual(at(side_line(one, other), place), [a * w, b * w, -(a * x + b * y) * w])
                self.assertEqual(at(square_line(one, other), place), [-b * w, a * w, (b * x - a * y) * w])
        self.assertGreater(count, 100)

    def test_of_two_lines(self):
        count = 0
        for one, other, place in self.both():
            (a, b, c), (d, e, f) = at(one, place), at(other, place)
            det = a * e - b * d
            meet = self.where(meet_point(one, other), place)
            self.assertEqual(meet is None, det == 0)
            if det != 0:
                count += 1
                self.assertEqual(meet, ((b * f - c * e) / det, (c * d - a * f) / det))
        self.assertGreater(count, 100)

    def test_free_and_told_points(self):
        place = [(1, 2), (-3, 4), (5, 6), (-7, 8), (9, 10), (-11, 12)]
        for u in range(6):
            for v in range(u + 1, 6):
                self.assertEqual(self.where(free_point(u, v), place), (Fraction(*place[u]), Fraction(*place[v])))
        for f in FRACTIONS:
            for g in FRACTIONS:
                self.assertEqual(self.where(told_point(f, g), place), (Fraction(*f), Fraction(*g)))


class TheAskersOwn(unittest.TestCase):
    """Point 2, beyond what check_rule looks at with each rule."""

    def test_what_was_told_is_handed_in_again(self):
        i, j = free_point(0, 1), free_point(2, 3)
        line = through_line(i, j)
        meet = meet_point(line, square_line(told_point((1, 2), (0, 1)), line))
        foot = foot_point(told_point((1, 2), (0, 1)), line)
        for some in meet + foot:
            check_form(self, some)
        for k in range(3):
            self.assertEqual(plain(meet[k]) * plain(foot[2]), plain(foot[k]) * plain(meet[2]))

    def test_one_list_at_all_places_of_what_is_handed_in(self):
        some = [((1,), 2), ((0, 1), -3), ((), 1)]
        thing = (some, some, some)
        for rule in (through_line, meet_point, side_line, square_line, foot_point, mirrored_point):
            check_own(self, rule, [thing, thing])
        check_own(self, slide_point, [thing, thing, 0])
        check_own(self, part_point, [thing, thing, (1, 1)])

    def test_a_told_list_that_is_changed_changes_no_other_point(self):
        first = free_point(0, 1)
        for some in first:
            some.append(((0, 0, 0, 0, 0, 9), 1))
        self.assertEqual(free_point(0, 1), ([((1,), 1)], [((0, 1), 1)], [((), 1)]))
        self.assertEqual(free_point(1, 2), ([((0, 1), 1)], [((0, 0, 1), 1)], [((), 1)]))
        told_point((1, 1), (1, 1))[2].clear()
        self.assertEqual(told_point((1, 1), (1, 1)), (ONE, ONE, ONE))


if __name__ == "__main__":
    unittest.main()

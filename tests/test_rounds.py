"""Point 10: raw rules of circles; and point 2, as far as it speaks of them."""

import unittest
from fractions import Fraction

import plain as by_hand
from everydraw.curves import as_curve, curve_polar
from everydraw.lines import free_point, mirrored_point, part_point, side_line, through_line, told_point
from everydraw.polys import worth_at
from everydraw.rounds import axis_line, centre_point, mirrored_circle, polar_line, round_circle, three_circle
from plain import TEN, check_rule, made, made_thing, on_bent, on_line, plain, plains

ONE = [((), 1)]
POINTS = [
    made_thing(11, 3, 3, 3, 2, 9), made_thing(12, 3, 3, 3, 1, TEN), made_thing(13, 3, 2, 2, 2, 10**12),
    ([], made(14, 3, 3, 2, TEN), ONE), (made(15, 3, 3, 1, 9), [], [((), -TEN)]), ([], [], ONE), ([], [], []),
    free_point(0, 1),
]
LINES = POINTS
CIRCLES = [
    made_thing(21, 4, 3, 3, 2, 9), made_thing(22, 4, 3, 3, 1, TEN),
    (ONE, made(23, 3, 3, 2, TEN), [], made(24, 2, 2, 2, 9)), ([], [((), 5)], made(25, 3, 3, 1, 9), []),
    ([((), TEN)], [], [], [((), -TEN)]), ([], [], [], []), (made(26, 3, 3, 2, 9), [], [], made(27, 3, 3, 2, 10**12)),
]


class Rules(unittest.TestCase):
    def test_round_circle(self):
        for c in POINTS:
            for i in POINTS:
                check_rule(self, round_circle, [c, i], by_hand.round_raw(plains(c), plains(i)))
        self.assertEqual(
            round_circle(told_point((1, 1), (2, 1)), told_point((4, 1), (6, 1))),
            (ONE, [((), -2)], [((), -4)], [((), -20)]),
        )

    def test_three_circle(self):
        for first in range(len(POINTS)):
            for second in range(len(POINTS)):
                three = [POINTS[first], POINTS[second], POINTS[(first + second + 3) % len(POINTS)]]
                check_rule(self, three_circle, three, by_hand.round3_raw(*[plains(one) for one in three]))

    def test_three_circle_of_told_points(self):
        # Through (0, 0), (2, 0) and (0, 4): x x + y y - 2 x - 4 y, up to a common product.
        three = [told_point((0, 1), (0, 1)), told_point((2, 1), (0, 1)), told_point((0, 1), (4, 1))]
        k, d, e, f = three_circle(*three)
        self.assertEqual((k, d, e, f), ([((), 8)], [((), -16)], [((), -32)], []))
        # The other way round all four change their sign.
        self.assertEqual(three_circle(three[1], three[0], three[2])[0], [((), -8)])

    def test_centre_point(self):
        for o in CIRCLES:
            check_rule(self, centre_point, [o], by_hand.centre_raw(plains(o)))
        self.assertEqual(centre_point((ONE, [((), -2)], [((1,), 4)], [])), ([((), 2)], [((1,), -4)], [((), 2)]))

    def test_polar_line(self):
        for o in CIRCLES:
            for i in POINTS:
                check_rule(self, polar_line, [o, i], by_hand.polar_raw(plains(o), plains(i)))

    def test_axis_line(self):
        for o in CIRCLES:
            for p in CIRCLES:
                check_rule(self, axis_line, [o, p], by_hand.axis_raw(plains(o), plains(p)))
            self.assertEqual(axis_line(o, o), ([], [], []))

    def test_mirrored_circle(self):
        for o in CIRCLES:
            for l in LINES:
                check_rule(self, mirrored_circle, [o, l], by_hand.mirroredround_raw(plains(o), plains(l)))

    def test_the_same_thing_handed_in_twice(self):
        for i in POINTS:
            same = plains(i)
            check_rule(self, round_circle, [i, i], by_hand.round_raw(same, same))
            self.assertEqual(three_circle(i, i, i), ([], [], [], []))
            self.assertEqual(three_circle(i, POINTS[0], i), ([], [], [], []))


class Together(unittest.TestCase):
    def zero(self, some):
        self.assertEqual(some, plain(0))

    def test_round_circle_comes_to_0_at_its_point(self):
        for c in POINTS:
            for i in POINTS:
                self.zero(on_bent(plains(i), plains(round_circle(c, i))))

    def test_the_centre_of_round_circle(self):
        for c in POINTS:
            for i in POINTS:
                x, y, w = plains(centre_point(round_circle(c, i)))
                x2, y2, w2 = plains(c)
                self.zero(x * w2 - w * x2)
                self.zero(y * w2 - w * y2)

    def test_three_circle_comes_to_0_at_its_three(self):
        for first in range(4):
            three = [POINTS[first], POINTS[first + 1], POINTS[7 - first]]
            circle = plains(three_circle(*three))
            for point in three:
                self.zero(on_bent(plains(point), circle))

    def test_the_polar_of_a_circle_and_of_its_curve(self):
        for o in CIRCLES:
            for i in POINTS:
                self.assertEqual(polar_line(o, i), curve_polar(as_curve(o), i))

    def test_polar_lines_of_each_other(self):
        for o in CIRCLES:
            for i in POINTS:
                for j in POINTS[:4]:
                    one = on_line(plains(j), plains(polar_line(o, i)))
                    other = on_line(plains(i), plains(polar_line(o, j)))
                    self.assertEqual(one, other)

    def test_mirrored_circle_twice(self):
        for o in CIRCLES:
            for l in LINES:
                a, b, c = plains(l)
                square = a * a + b * b
                twice = mirrored_circle(mirrored_circle(o, l), l)
                self.assertEqual(twice, by_hand.told([square * square * some for some in plains(o)]))

    def test_a_mirrored_circle_goes_through_the_mirrored_point(self):
        for k in range(3):
            c, i, l = POINTS[7], POINTS[k], through_line(told_point((1, 2), (3, 1)), free_point(1, 2))
            circle = mirrored_circle(round_circle(c, i), l)
            self.zero(on_bent(plains(mirrored_point(i, l)), plains(circle)))

    def test_the_axis_of_two_circles_through_one_point(self):
        i, j = free_point(0, 1), free_point(2, 3)
        one = three_circle(i, j, told_point((1, 2), (3, 1)))
        other = round_circle(part_point(i, j, (1, 2)), i)
        axis = plains(axis_line(one, other))
        self.zero(on_line(plains(i), axis))
        self.zero(on_line(plains(j), axis))

    def test_a_line_that_touches(self):
        # The polar at a point of the circle is side by side with that through the point over against it.
        c, i = free_point(0, 1), free_point(2, 3)
        circle = round_circle(c, i)
        touch = polar_line(circle, i)
        over = part_point(i, c, (2, 1))
        self.zero(on_bent(plains(over), plains(circle)))
        a, b, _ = plains(touch)
        a2, b2, _ = plains(side_line(over, polar_line(circle, over)))
        self.zero(a * b2 - b * a2)


class AtPlaces(unittest.TestCase):
    def test_middle_and_width(self):
        for place in ([(1, 2), (-3, 4), (5, 3)], [(0, 1), (2, 1), (-1, 7)], [(9, 2), (1, 1), (1, 1)]):
            for c in POINTS[:5]:
                for i in POINTS[:5]:
                    k, d, e, f = [Fraction(*worth_at(some, place)) for some in round_circle(c, i)]
                    xc, yc, wc = [Fraction(*worth_at(some, place)) for some in c]
                    xi, yi, wi = [Fraction(*worth_at(some, place)) for some in i]
                    if wc != 0 and wi != 0:
                        self.assertEqual((-d / (2 * k), -e / (2 * k)), (xc / wc, yc / wc))
                        self.assertEqual(
                            (d * d + e * e - 4 * k * f) / (4 * k * k),
                            (xi / wi - xc / wc) ** 2 + (yi / wi - yc / wc) ** 2,
                        )


if __name__ == "__main__":
    unittest.main()

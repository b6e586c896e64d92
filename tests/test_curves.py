"""Point 11: raw rules of curves and second meets; and point 2, as far as it speaks of them."""

import unittest

import plain as by_hand
from everydraw.curves import again_point, as_curve, curve_centre, curve_polar, five_curve, roll_point
from everydraw.lines import free_point, part_point, through_line, told_point
from everydraw.rounds import centre_point, round_circle, three_circle
from plain import TEN, check_rule, free, made, made_thing, on_bent, on_line, plain, plains

ONE = [((), 1)]
POINTS = [
    made_thing(31, 3, 2, 3, 1, 9), made_thing(32, 3, 2, 3, 1, TEN), made_thing(33, 3, 2, 2, 2, 10**12),
    ([], made(34, 3, 3, 1, TEN), ONE), (made(35, 2, 3, 1, 9), [], [((), -TEN)]), ([], [], ONE), free_point(0, 1),
    ([], [], []),
]
LINES = POINTS
CIRCLES = [
    made_thing(41, 4, 3, 3, 2, 9), made_thing(42, 4, 3, 3, 1, TEN), (ONE, made(43, 3, 3, 2, TEN), [], []),
    ([], [], [], []), ([((), TEN)], [], [((1,), 2)], [((), -TEN)]),
]
CURVES = [
    made_thing(51, 6, 3, 3, 2, 9), made_thing(52, 6, 2, 3, 1, TEN), ([], ONE, [], made(53, 3, 3, 2, TEN), [], ONE),
    (made(54, 3, 3, 1, 9), [], [], [], [((), -1)], []), ([], [], [], [], [], []),
    (ONE, [((), TEN)], [((), -TEN)], [], made(55, 3, 3, 2, 9), []),
]
# Five told points, no three of them on one line.
FIVE = [told_point((x, 1), (y, 1)) for x, y in ((0, 0), (1, 0), (0, 1), (2, 3), (3, 5))]


class Rules(unittest.TestCase):
    def test_as_curve(self):
        for o in CIRCLES:
            k, d, e, f = o
            check_rule(self, as_curve, [o], (plain(k), 0, plain(k), plain(d), plain(e), plain(f)))
            self.assertEqual(as_curve(o), (k, [], k, d, e, f))
            self.assertEqual(as_curve(as_curve(o)), as_curve(o))
        for v in CURVES:
            check_rule(self, as_curve, [v], plains(v))
            self.assertEqual(as_curve(v), v)

    def test_five_curve(self):
        for start in range(len(POINTS)):
            five = [POINTS[(start + step) % len(POINTS)] for step in (0, 1, 3, 5, 6)]
            check_rule(self, five_curve, five, by_hand.five_raw(*[plains(one) for one in five]))
        check_rule(self, five_curve, FIVE, by_hand.five_raw(*[plains(one) for one in FIVE]))
        mixed = [POINTS[6], POINTS[0], FIVE[1], FIVE[2], FIVE[3]]
        check_rule(self, five_curve, mixed, by_hand.five_raw(*[plains(one) for one in mixed]))

    def test_five_curve_of_told_points(self):
        # (1, 1), (-1, 1), (2, 4), (-2, 4) and (0, 0) lie on x x - y, up to a common product.
        five = [told_point((x, 1), (x * x, 1)) for x in (1, -1, 2, -2, 0)]
        a, b, c, d, e, f = five_curve(*five)
        self.assertEqual((b, c, d, f), ([], [], [], []))
        self.assertEqual(plain(a), -plain(e))
        self.assertNotEqual(a, [])

    def test_curve_centre(self):
        for v in CURVES:
            check_rule(self, curve_centre, [v], by_hand.curve_centre_raw(plains(v)))

    def test_curve_polar(self):
        for v in CURVES:
            for i in POINTS:
                check_rule(self, curve_polar, [v, i], by_hand.curve_polar_raw(plains(v), plains(i)))

    def test_again_point(self):
        for v in CURVES:
            for k in range(len(LINES)):
                for i in (POINTS[k], POINTS[(k + 3) % len(POINTS)]):
                    raw = by_hand.again_raw(plains(v), plains(LINES[k]), plains(i))
                    check_rule(self, again_point, [v, LINES[k], i], raw)

    def test_roll_point(self):
        for v in CURVES:
            for t in range(6):
                i = POINTS[t]
                check_rule(self, roll_point, [v, i, t], by_hand.roll_raw(plains(v), plains(i), free(t)))

    def test_again_and_roll_of_a_circle(self):
        for o in CIRCLES:
            curve = as_curve(o)
            for i in POINTS[:4]:
                self.assertEqual(again_point(o, LINES[0], i), again_point(curve, LINES[0], i))
                self.assertEqual(roll_point(o, i, 2), roll_point(curve, i, 2))
                self.assertEqual(curve_polar(o, i), curve_polar(curve, i))
            self.assertEqual(curve_centre(o), curve_centre(curve))
            check_rule(self, again_point, [o, LINES[1], POINTS[0]], plains(again_point(curve, LINES[1], POINTS[0])))

    def test_the_same_thing_handed_in_twice(self):
        for i in POINTS:
            self.assertEqual(five_curve(i, i, i, i, i), ([], [], [], [], [], []))
            same = plains(i)
            for v in CURVES[:2]:
                check_rule(self, again_point, [v, i, i], by_hand.again_raw(plains(v), same, same))
        check_rule(
            self, five_curve, [FIVE[0], FIVE[0], FIVE[1], FIVE[2], POINTS[6]],
            by_hand.five_raw(*[plains(one) for one in (FIVE[0], FIVE[0], FIVE[1], FIVE[2], POINTS[6])]),
        )


class Together(unittest.TestCase):
    def zero(self, some):
        self.assertEqual(some, plain(0))

    def test_five_curve_comes_to_0_at_its_five(self):
        for five in (FIVE, [free_point(0, 1), POINTS[3]] + FIVE[:3], [POINTS[0]] + FIVE[1:], POINTS[2:4] + FIVE[2:]):
            curve = plains(five_curve(*five))
            self.assertTrue(any(some != 0 for some in curve))
            for point in five:
                self.zero(on_bent(plains(point), curve))

    def test_again_point_lies_on_the_line(self):
        # H B A - H A B falls away, so of the line's worth G times that of the point is left.
        for v in CURVES:
            for l in LINES[:5]:
                for i in POINTS[:5]:
                    again = plains(again_point(v, l, i))
                    a, b, _ = plains(l)
                    six = plains(v)
                    g = six[0] * b * b - six[1] * a * b + six[2] * a * a
                    self.assertEqual(on_line(again, plains(l)), g * on_line(plains(i), plains(l)))

    def test_again_point_lies_on_line_and_curve_where_the_point_does(self):
        i, j = free_point(0, 1), free_point(2, 3)
        line = through_line(i, told_point((1, 2), (-2, 3)))
        for bent in (round_circle(j, i), as_curve(round_circle(j, i)), five_curve(i, *FIVE[1:])):
            again = plains(again_point(bent, line, i))
            self.assertNotEqual(again[2], 0)
            self.zero(on_line(again, plains(line)))
            self.zero(on_bent(again, plains(bent)))

    def test_again_of_again_is_the_point(self):
        i, j = free_point(0, 1), free_point(2, 3)
        circle, line = round_circle(j, i), through_line(i, told_point((1, 2), (-2, 3)))
        x, y, w = plains(again_point(circle, line, again_point(circle, line, i)))
        x2, y2, w2 = plains(i)
        self.assertNotEqual(w, 0)
        self.zero(x * w2 - x2 * w)
        self.zero(y * w2 - y2 * w)

    def test_the_second_meet_through_the_middle(self):
        c, i = free_point(0, 1), free_point(2, 3)
        x, y, w = plains(again_point(round_circle(c, i), through_line(c, i), i))
        x2, y2, w2 = plains(part_point(i, c, (2, 1)))
        self.zero(x * w2 - x2 * w)
        self.zero(y * w2 - y2 * w)

    def test_roll_point_lies_on_the_curve(self):
        i = free_point(0, 1)
        for bent in (round_circle(told_point((1, 2), (3, 1)), i), five_curve(i, *FIVE[1:])):
            roll = plains(roll_point(bent, i, 4))
            self.assertNotEqual(roll[2], 0)
            self.zero(on_bent(roll, plains(bent)))
            # It stands from the point as far upwards as rightwards, taken t times.
            (x, y, w), (x2, y2, w2) = plains(i), roll
            self.zero((y2 * w - y * w2) - free(4) * (x2 * w - x * w2))

    def test_the_centre_of_a_circle_as_a_curve(self):
        for o in (round_circle(free_point(0, 1), free_point(2, 3)), three_circle(*FIVE[:3])):
            x, y, w = plains(curve_centre(as_curve(o)))
            x2, y2, w2 = plains(centre_point(o))
            self.zero(x * w2 - x2 * w)
            self.zero(y * w2 - y2 * w)

    def test_the_centre_parts_each_way_through_it_in_halves(self):
        curve = five_curve(*FIVE)
        centre = curve_centre(curve)
        over = part_point(FIVE[0], centre, (2, 1))
        self.assertNotEqual(over[2], [])
        self.zero(on_bent(plains(over), plains(curve)))


if __name__ == "__main__":
    unittest.main()

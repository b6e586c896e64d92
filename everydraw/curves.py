"""The raw rules of curves and second meets: those over any amounts, and behind them those of polynomials."""

from everydraw.amounts import free_poly, poly_total
from everydraw.sums import crossed, dotted


# A circle is told by four amounts, a curve by six. Each amount is made anew, as what is told is the asker's own.
def curve_rule(total, o):
    if len(o) == 6:
        return tuple([total([(1, amount)]) for amount in o])
    return (
        total([(1, o[0])]), total([]), total([(1, o[0])]), total([(1, o[1])]), total([(1, o[2])]), total([(1, o[3])])
    )


# The rules of curves take a circle, too, as the curve that it is.
def six_of(total, v):
    return v if len(v) == 6 else curve_rule(total, v)


# Two lines multiplied out, as a curve.
def pair_of_lines(total, l, m):
    return (
        total([(1, l[0], m[0])]),
        total([(1, l[0], m[1]), (1, l[1], m[0])]),
        total([(1, l[1], m[1])]),
        total([(1, l[0], m[2]), (1, l[2], m[0])]),
        total([(1, l[1], m[2]), (1, l[2], m[1])]),
        total([(1, l[2], m[2])]),
    )


def worth_of_both(total, lines, i):
    return total([(1, dotted(total, lines[0], i), dotted(total, lines[1], i))])


def five_rule(total, i, j, k, l, m):
    first = (crossed(total, i, j), crossed(total, k, l))
    second = (crossed(total, i, k), crossed(total, j, l))
    first_worth = worth_of_both(total, first, m)
    second_worth = worth_of_both(total, second, m)
    first_pair = pair_of_lines(total, first[0], first[1])
    second_pair = pair_of_lines(total, second[0], second[1])
    return tuple([
        total([(1, second_worth, one), (-1, first_worth, other)]) for one, other in zip(first_pair, second_pair)
    ])


def curve_centre_rule(total, v):
    return (
        total([(1, v[1], v[4]), (-2, v[2], v[3])]),
        total([(1, v[1], v[3]), (-2, v[0], v[4])]),
        total([(4, v[0], v[2]), (-1, v[1], v[1])]),
    )


def curve_polar_rule(total, v, i):
    return (
        total([(2, v[0], i[0]), (1, v[1], i[1]), (1, v[3], i[2])]),
        total([(1, v[1], i[0]), (2, v[2], i[1]), (1, v[4], i[2])]),
        total([(1, v[3], i[0]), (1, v[4], i[1]), (2, v[5], i[2])]),
    )


# The letters are those of point 11; the line's last amount and the polar's last one do not come in.
def again_rule(total, v, l, i):
    six = six_of(total, v)
    polar = curve_polar_rule(total, six, i)
    g = total([(1, six[0], l[1], l[1]), (-1, six[1], l[0], l[1]), (1, six[2], l[0], l[0])])
    h = total([(1, l[0], polar[1]), (-1, l[1], polar[0])])
    return (
        total([(1, g, i[0]), (1, h, l[1])]),
        total([(1, g, i[1]), (-1, h, l[0])]),
        total([(1, g, i[2])]),
    )


# The free number is a fraction of amounts, so the line - t, 1, 0 is taken times its bottom.
def roll_rule(total, v, i, t):
    return again_rule(total, v, (total([(-1, t[0])]), t[1], total([])), i)


def as_curve(o):
    return curve_rule(poly_total, o)


def five_curve(i, j, k, l, m):
    return five_rule(poly_total, i, j, k, l, m)


def curve_centre(v):
    return curve_centre_rule(poly_total, six_of(poly_total, v))


def curve_polar(v, i):
    return curve_polar_rule(poly_total, six_of(poly_total, v), i)


def again_point(v, l, i):
    return again_rule(poly_total, v, l, i)


def roll_point(v, i, t):
    return roll_rule(poly_total, v, i, free_poly(t))

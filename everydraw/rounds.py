"""The raw rules of circles: those over any amounts, and behind them those of polynomials."""

from everydraw.amounts import poly_total
from everydraw.sums import determinant, square_of_way, without_place


def round_rule(total, c, i):
    return (
        total([(1, c[2], i[2], i[2])]),
        total([(-2, c[0], i[2], i[2])]),
        total([(-2, c[1], i[2], i[2])]),
        total([(2, i[0], c[0], i[2]), (2, i[1], c[1], i[2]), (-1, i[0], i[0], c[2]), (-1, i[1], i[1], c[2])]),
    )


# What a point's place comes to in K, D, E and F: a line of the tables of three and of four points.
def round_row(total, i):
    return (
        total([(1, i[0], i[0]), (1, i[1], i[1])]),
        total([(1, i[0], i[2])]),
        total([(1, i[1], i[2])]),
        total([(1, i[2], i[2])]),
    )


def three_rule(total, i, j, k):
    rows = [round_row(total, point) for point in (i, j, k)]
    found = [determinant(total, without_place(rows, place)) for place in range(4)]
    return (found[0], total([(-1, found[1])]), found[2], total([(-1, found[3])]))


def centre_rule(total, o):
    return (total([(-1, o[1])]), total([(-1, o[2])]), total([(2, o[0])]))


def polar_rule(total, o, i):
    return (
        total([(2, o[0], i[0]), (1, o[1], i[2])]),
        total([(2, o[0], i[1]), (1, o[2], i[2])]),
        total([(1, o[1], i[0]), (1, o[2], i[1]), (2, o[3], i[2])]),
    )


def axis_rule(total, o, p):
    return (
        total([(1, o[1], p[0]), (-1, p[1], o[0])]),
        total([(1, o[2], p[0]), (-1, p[2], o[0])]),
        total([(1, o[3], p[0]), (-1, p[3], o[0])]),
    )


# U of point 10.
def middle_worth(total, o, l):
    return total([(1, l[0], o[1]), (1, l[1], o[2]), (-2, l[2], o[0])])


def mirroredround_rule(total, o, l):
    square = square_of_way(total, l)
    worth = middle_worth(total, o, l)
    return (
        total([(1, square, o[0])]),
        total([(1, square, o[1]), (-2, l[0], worth)]),
        total([(1, square, o[2]), (-2, l[1], worth)]),
        total([(1, square, o[3]), (-2, l[2], worth)]),
    )


def round_circle(c, i):
    return round_rule(poly_total, c, i)


def three_circle(i, j, k):
    return three_rule(poly_total, i, j, k)


def centre_point(o):
    return centre_rule(poly_total, o)


def polar_line(o, i):
    return polar_rule(poly_total, o, i)


def axis_line(o, p):
    return axis_rule(poly_total, o, p)


def mirrored_circle(o, l):
    return mirroredround_rule(poly_total, o, l)

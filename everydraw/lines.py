"""The raw rules of points and lines: those over any amounts, and behind them those of polynomials."""

from everydraw.amounts import free_poly, poly_total, told_fraction
from everydraw.sums import crossed, square_of_way, way_between


def told_rule(total, f, g):
    return (total([(1, f[0], g[1])]), total([(1, g[0], f[1])]), total([(1, f[1], g[1])]))


def part_rule(total, i, j, f):
    way = way_between(total, i, j)
    return (
        total([(1, f[1], i[0], j[2]), (1, f[0], way[0])]),
        total([(1, f[1], i[1], j[2]), (1, f[0], way[1])]),
        total([(1, f[1], i[2], j[2])]),
    )


def side_rule(total, i, l):
    return (
        total([(1, l[0], i[2])]),
        total([(1, l[1], i[2])]),
        total([(-1, l[0], i[0]), (-1, l[1], i[1])]),
    )


def square_rule(total, i, l):
    return (
        total([(-1, l[1], i[2])]),
        total([(1, l[0], i[2])]),
        total([(1, l[1], i[0]), (-1, l[0], i[1])]),
    )


def foot_rule(total, i, l):
    return (
        total([(1, l[1], l[1], i[0]), (-1, l[0], l[1], i[1]), (-1, l[0], l[2], i[2])]),
        total([(1, l[0], l[0], i[1]), (-1, l[0], l[1], i[0]), (-1, l[1], l[2], i[2])]),
        total([(1, square_of_way(total, l), i[2])]),
    )


def mirrored_rule(total, i, l):
    foot = foot_rule(total, i, l)
    square = square_of_way(total, l)
    return (
        total([(2, foot[0]), (-1, square, i[0])]),
        total([(2, foot[1]), (-1, square, i[1])]),
        total([(1, square, i[2])]),
    )


def free_point(u, v):
    return told_rule(poly_total, free_poly(u), free_poly(v))


def told_point(f, g):
    return told_rule(poly_total, told_fraction(poly_total, f), told_fraction(poly_total, g))


def slide_point(i, j, t):
    return part_rule(poly_total, i, j, free_poly(t))


def through_line(i, j):
    return crossed(poly_total, i, j)


def meet_point(l, m):
    return crossed(poly_total, l, m)


def side_line(i, l):
    return side_rule(poly_total, i, l)


def square_line(i, l):
    return square_rule(poly_total, i, l)


def foot_point(i, l):
    return foot_rule(poly_total, i, l)


def part_point(i, j, f):
    return part_rule(poly_total, i, j, told_fraction(poly_total, f))


def mirrored_point(i, l):
    return mirrored_rule(poly_total, i, l)

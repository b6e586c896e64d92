"""Fractions: tuples of a top and a bottom of 1 or more, without a common divisor above 1."""

from everydraw.errors import NoBottom


def common_divisor(one, other):
    one = abs(one)
    other = abs(other)
    while other != 0:
        rest = one % other
        one = other
        other = rest
    return one


def fraction_of(top, bottom):
    if bottom == 0:
        raise NoBottom("a fraction's bottom is 0")
    if bottom < 0:
        top = -top
        bottom = -bottom
    common = common_divisor(top, bottom)
    return (top // common, bottom // common)


def frac_sum(one, other):
    return fraction_of(one[0] * other[1] + other[0] * one[1], one[1] * other[1])


def frac_less(one, other):
    return fraction_of(one[0] * other[1] - other[0] * one[1], one[1] * other[1])


def frac_times(one, other):
    return fraction_of(one[0] * other[0], one[1] * other[1])


def frac_by(one, other):
    return fraction_of(one[0] * other[1], one[1] * other[0])


def frac_lesser(one, other):
    # Both bottoms are above 0, so multiplying by them keeps the order.
    return one[0] * other[1] < other[0] * one[1]

"""Fractions: tuples of a top and a bottom of 1 or more, without a common divisor above 1."""

from everydraw.errors import NoBottom


def common_divisor(one, other):
    one = abs(one)
    other = abs(other)
    while other != 0:
        rest = one % other
        one = other
        other = rest
    return one


def is_whole(some):
    return isinstance(some, int) and not isinstance(some, bool)


def is_fraction(some):
    if not isinstance(some, tuple) or len(some) != 2 or not is_whole(some[0]) or not is_whole(some[1]):
        return False
    return some[1] >= 1 and common_divisor(some[0], some[1]) == 1


def fraction_of(top, bottom):
    if bottom == 0:
        raise NoBottom("a fraction's bottom is 0")
    if bottom < 0:
        top = -top
        bottom = -bottom
    common = common_divisor(top, bottom)
    return (top // common, bottom // common)


def frac_sum(one, other):
    return fraction_of(one[0] * other[1] + other[0] * one[1], one[1] * other[1])


def frac_less(one, other):
    return fraction_of(one[0] * other[1] - other[0] * one[1], one[1] * other[1])


def frac_times(one, other):
    return fraction_of(one[0] * other[0], one[1] * other[1])


def frac_by(one, other):
    return fraction_of(one[0] * other[1], one[1] * other[0])


def frac_lesser(one, other):
    # Both bottoms are above 0, so multiplying by them keeps the order.
    return one[0] * other[1] < other[0] * one[1]

"""Amounts that the raw rules reckon with: polynomials, whole numbers, or weights in the place of polynomials.

A rule is written once, over a total: a def that adds up parts, each a tuple of a whole number and the factors that
are multiplied with it. A part without factors is the whole number by itself, and no parts at all are 0.
"""

from everydraw.polys import add_products, greatest_powers, packed, unpacked


# Powers are packed as in the products of two polynomials, with bits enough for the greatest product of all parts.
def width_of(parts):
    most = 0
    for part in parts:
        most = max(most, sum([max(greatest_powers(some)) for some in part[1:]]))
    return most.bit_length()


def add_part(whole, part, width):
    factors = sorted([packed(some, width) for some in part[1:]], key=len)
    left = [(0, part[0])]
    for right in factors[:-1]:
        product = {}
        add_products(product, left, right)
        left = list(product.items())
    add_products(whole, left, factors[-1] if len(factors) > 0 else [(0, 1)])


def poly_total(parts):
    width = width_of(parts)
    whole = {}
    for part in parts:
        add_part(whole, part, width)
    return unpacked(whole, width)


def whole_total(parts):
    whole = 0
    for part in parts:
        worth = part[0]
        for factor in part[1:]:
            worth = worth * factor
        whole = whole + worth
    return whole


# A whole number has the weight 0 whatever it is, also 0 itself, so the numbers of the parts do not count.
def weight_total(parts):
    return max([sum(part[1:]) for part in parts], default=0)


# Free numbers and told ones go into the rules alike: as a fraction, a tuple of the amounts of its top and its bottom.
def free_poly(k):
    return ([(tuple([0] * k + [1]), 1)], [((), 1)])


def free_weight():
    return (1, 0)


def told_fraction(total, f):
    return (total([(f[0],)]), total([(f[1],)]))

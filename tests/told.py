"""Helps for the tests: what sayings come to, as the document tells it, and what they mean in plain geometry.

As in plain.py the rules stand over anything that adds, takes away and multiplies.
"""

from fractions import Fraction
from math import comb

import plain as by_hand
from plain import NAMED, Weight, determinant, on_bent, on_line, plain, plains, weight

# p is a point, l a line, o a circle, t a line, a circle or a curve.
ENTRIES = {
    "inline": "ppp", "one": "lll", "on": "pt", "aside": "ll", "asquare": "ll", "same": "pp", "sameline": "ll",
    "far": "pppp", "areas": "pppppp", "ring": "pppp", "angles": "pppppp", "evenpair": "pppp", "touches": "lo",
    "touching": "oo", "squareround": "oo", "evenround": "oo",
}
FITTING = dict(NAMED, t=("line", "circle", "curve"))


def far_raw(i, j, k, n):
    def square(one, other):
        (x, y, w), (x2, y2, w2) = one, other
        return (x * w2 - x2 * w) * (x * w2 - x2 * w) + (y * w2 - y2 * w) * (y * w2 - y2 * w)

    one, other = i[2] * j[2], k[2] * n[2]
    return [square(i, j) * (other * other) - square(k, n) * (one * one)]


def areas_raw(i, j, k, n, q, r):
    return [determinant([i, j, k]) * n[2] * q[2] * r[2] - determinant([n, q, r]) * i[2] * j[2] * k[2]]


def ring_raw(*points):
    return [determinant([(x * x + y * y, x * w, y * w, w * w) for x, y, w in points])]


def angles_raw(i, j, k, n, q, r):
    def way(one, other):
        (x, y, w), (x2, y2, w2) = one, other
        return x2 * w - x * w2, y2 * w - y * w2

    def both(first, middle, last):
        one, other = way(middle, first), way(middle, last)
        return one[0] * other[1] - other[0] * one[1], one[0] * other[0] + one[1] * other[1]

    (g, h), (g2, h2) = both(i, j, k), both(n, q, r)
    return [g * h2 - g2 * h]


def evenpair_raw(i, j, k, n):
    def reach(place, one, other):
        return one[place] * other[2] - other[place] * one[2]

    return [determinant([i, j, k]), determinant([i, j, n])] + [
        reach(place, i, k) * reach(place, j, n) + reach(place, i, n) * reach(place, j, k) for place in (0, 1)
    ]


def width_raw(o):
    k, d, e, f = o
    return d * d + e * e - 4 * k * f


def crossing_raw(o, p):
    (k, d, e, f), (k2, d2, e2, f2) = o, p
    return d * d2 + e * e2 - 2 * k * f2 - 2 * k2 * f


def touches_raw(l, o):
    (a, b, c), (k, d, e, f) = l, o
    u = a * d + b * e - 2 * c * k
    return [u * u - (a * a + b * b) * width_raw(o)]


def touching_raw(o, p):
    v = crossing_raw(o, p)
    return [v * v - width_raw(o) * width_raw(p)]


def same_raw(i, j):
    (x, y, w), (x2, y2, w2) = i, j
    return [x * w2 - x2 * w, y * w2 - y2 * w]


COMES_TO = {
    "inline": lambda *points: [determinant(points)],
    "one": lambda *lines: [determinant(lines)],
    "on": lambda i, v: [on_line(i, v) if len(v) == 3 else on_bent(i, v)],
    "aside": lambda l, m: [l[0] * m[1] - l[1] * m[0]],
    "asquare": lambda l, m: [l[0] * m[0] + l[1] * m[1]],
    "same": same_raw,
    "sameline": lambda l, m: list(by_hand.meet_raw(l, m)),
    "far": far_raw,
    "areas": areas_raw,
    "ring": ring_raw,
    "angles": angles_raw,
    "evenpair": evenpair_raw,
    "touches": touches_raw,
    "touching": touching_raw,
    "squareround": lambda o, p: [crossing_raw(o, p)],
    "evenround": lambda o, p: [p[0] * p[0] * width_raw(o) - o[0] * o[0] * width_raw(p)],
}


def comes_to_by(saying, things):
    return COMES_TO[saying[0]](*[things[number] for number in saying[1:]])


def told_worths(saying, things):
    return [plain(some).told() for some in comes_to_by(saying, [plains(thing) for thing in things])]


def weights_by(steps, saying, sizes=False):
    things = [tuple(Weight(one) for one in thing) for thing in by_hand.weights_by(steps, sizes)]
    return [weight(some).weight for some in comes_to_by(saying, things)]


def is_deep(steps, saying):
    count = sum(by_hand.BRINGS.get(step[0], 0) for step in steps)
    return comb(count + max(weights_by(steps, saying)), count) > 4000 or max(weights_by(steps, saying, True)) > 100


def sayings_of(word, kinds, chance, twice=False):
    """A saying with the word over chance things of the kinds that are due, or None where there are none."""
    numbers = []
    for due in ENTRIES[word]:
        fitting = [k for k, kind in enumerate(kinds) if kind in FITTING[due] and (twice or k not in numbers)]
        if not fitting:
            return None
        numbers.append(chance.choice(fitting))
    return (word,) + tuple(numbers)


# Behind here plain geometry, of what drawn_at tells.

def cross(one, other):
    return one[0] * other[1] - one[1] * other[0]


def dot(one, other):
    return one[0] * other[0] + one[1] * other[1]


def between(i, j):
    return j[0] - i[0], j[1] - i[1]


def distance(i, j):
    return dot(between(i, j), between(i, j))


def area(i, j, k):
    return cross(between(i, j), between(i, k))


def crossing(l, m):
    """The point where two lines cross, or None."""
    (a, b, c), (a2, b2, c2) = l, m
    under = a * b2 - a2 * b
    return None if under == 0 else (Fraction(b * c2 - b2 * c, under), Fraction(c * a2 - c2 * a, under))


def lies_on(i, v):
    if len(v) == 3 and v[0].__class__ is int:
        return v[0] * i[0] + v[1] * i[1] + v[2] == 0
    if len(v) == 3:
        return distance(i, v) == v[2]
    a, b, c, d, e, f = v
    return a * i[0] ** 2 + b * i[0] * i[1] + c * i[1] ** 2 + d * i[0] + e * i[1] + f == 0


def through_one(*lines):
    for first, second, third in ((0, 1, 2), (0, 2, 1), (1, 2, 0)):
        point = crossing(lines[first], lines[second])
        if point is not None:
            return lies_on(point, lines[third])
    return True


def on_one_circle(*points):
    for place in range(4):
        i, j, k = points[:place] + points[place + 1:]
        if area(i, j, k) != 0:
            # The middle is where the lines of points as far from i as from j, and as far from i as from k, cross.
            lines = [
                (2 * (p[0] - i[0]), 2 * (p[1] - i[1]), dot(i, i) - dot(p, p)) for p in (j, k)
            ]
            middle = crossing(*lines)
            return distance(middle, i) == distance(middle, points[place])
    return True


def like_angles(i, j, k, n, q, r):
    # Turned by the first angle, the second one's first way lies along its second way, or a way has no length.
    def turn(way, one, other):
        return (way[0] * dot(one, other) - way[1] * cross(one, other),
                way[0] * cross(one, other) + way[1] * dot(one, other))

    turned = turn(between(q, n), between(j, i), between(j, k))
    return cross(turned, between(q, r)) == 0


def even_pair(i, j, k, n):
    if area(i, j, k) != 0 or area(i, j, n) != 0:
        return False
    return all(
        (k[axis] - i[axis]) * (n[axis] - j[axis]) == -(n[axis] - i[axis]) * (k[axis] - j[axis]) for axis in (0, 1)
    )


def touch_each_other(o, p):
    # The way between the middles is the sum or the difference of the widths.
    return (distance(o, p) - o[2] - p[2]) ** 2 == 4 * o[2] * p[2]


GEOMETRY = {
    "inline": lambda i, j, k: area(i, j, k) == 0,
    "one": through_one,
    "on": lies_on,
    "aside": lambda l, m: cross(l, m) == 0,
    "asquare": lambda l, m: dot(l, m) == 0,
    "same": lambda i, j: i == j,
    "sameline": lambda l, m: l == m,
    "far": lambda i, j, k, n: distance(i, j) == distance(k, n),
    "areas": lambda i, j, k, n, q, r: area(i, j, k) == area(n, q, r),
    "ring": on_one_circle,
    "angles": like_angles,
    "evenpair": even_pair,
    "touches": lambda l, o: (l[0] * o[0] + l[1] * o[1] + l[2]) ** 2 == dot(l, l) * o[2],
    "touching": touch_each_other,
    "squareround": lambda o, p: distance(o, p) == o[2] + p[2],
    "evenround": lambda o, p: o[2] == p[2],
}


def shape(one):
    """A thing as drawn_at tells it, with Python's fractions and without its kind."""
    return tuple(Fraction(*part) if part.__class__ is tuple else part for part in one[1:])


def means(saying, drawn):
    return GEOMETRY[saying[0]](*[shape(drawn[number]) for number in saying[1:]])

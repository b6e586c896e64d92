"""Helps for the tests: the raw rules as the document tells them, written without the program's own forms.

The rules stand here once, over anything that adds, takes away and multiplies: Plain (polynomials), Weight (weights in
the place of polynomials), or Python's own fractions.
"""

import random
from copy import deepcopy
from itertools import permutations

TEN = 10**10 + 19
THIRTY = 10**30 - 1


class Plain:
    """A polynomial as a dict from six powers to a number."""

    def __init__(self, worth):
        self.worth = {powers: number for powers, number in worth.items() if number != 0}

    def __add__(self, other):
        worth = dict(self.worth)
        for powers, number in plain(other).worth.items():
            worth[powers] = worth.get(powers, 0) + number
        return Plain(worth)

    def __neg__(self):
        return Plain({powers: -number for powers, number in self.worth.items()})

    def __sub__(self, other):
        return self + -plain(other)

    def __mul__(self, other):
        worth = {}
        for first, number in self.worth.items():
            for second, part in plain(other).worth.items():
                powers = tuple(a + b for a, b in zip(first, second))
                worth[powers] = worth.get(powers, 0) + number * part
        return Plain(worth)

    def __rmul__(self, other):
        return self * other

    def __radd__(self, other):
        return self + other

    def __rsub__(self, other):
        return -self + other

    def __eq__(self, other):
        return self.worth == plain(other).worth

    def __repr__(self):
        return f"Plain({self.worth})"

    def told(self):
        """As point 6 tells a polynomial."""
        terms = []
        for powers in sorted(self.worth, reverse=True):
            bare = list(powers)
            while bare and bare[-1] == 0:
                bare.pop()
            terms.append((tuple(bare), self.worth[powers]))
        return terms


def plain(some):
    if isinstance(some, Plain):
        return some
    if isinstance(some, int):
        return Plain({(0,) * 6: some})
    worth = {}
    for powers, number in some:
        full = tuple(powers) + (0,) * (6 - len(powers))
        worth[full] = worth.get(full, 0) + number
    return Plain(worth)


def plains(thing):
    return tuple(plain(some) for some in thing)


def told(thing):
    return tuple(plain(some).told() for some in thing)


def free(k):
    return Plain({tuple(int(place == k) for place in range(6)): 1})


class Weight:
    """A whole number has the weight 0, a product the sum of the weights, a sum or a difference the greatest."""

    def __init__(self, weight):
        self.weight = weight

    def __add__(self, other):
        return Weight(max(self.weight, weight(other).weight))

    def __mul__(self, other):
        return Weight(self.weight + weight(other).weight)

    def __neg__(self):
        return self

    __sub__ = __radd__ = __rsub__ = __add__
    __rmul__ = __mul__


def weight(some):
    return some if isinstance(some, Weight) else Weight(0)


# Behind here the raw rules, in the words and letters of points 9 to 11.

def free_raw(u, v):
    return u, v, 1


def told_raw(f, g):
    (p, q), (r, s) = f, g
    return p * s, r * q, q * s


def slide_raw(i, j, t):
    (x, y, w), (x2, y2, w2) = i, j
    d = x2 * w - x * w2
    e = y2 * w - y * w2
    return x * w2 + t * d, y * w2 + t * e, w * w2


def through_raw(i, j):
    (x, y, w), (x2, y2, w2) = i, j
    return y * w2 - w * y2, w * x2 - x * w2, x * y2 - y * x2


def meet_raw(l, m):
    (a, b, c), (a2, b2, c2) = l, m
    return b * c2 - c * b2, c * a2 - a * c2, a * b2 - b * a2


def side_raw(i, l):
    (x, y, w), (a, b, c) = i, l
    return a * w, b * w, -(a * x) - b * y


def square_raw(i, l):
    (x, y, w), (a, b, c) = i, l
    return -(b * w), a * w, b * x - a * y


def foot_raw(i, l):
    (x, y, w), (a, b, c) = i, l
    n = a * a + b * b
    return b * b * x - a * b * y - a * c * w, a * a * y - a * b * x - b * c * w, n * w


def part_raw(i, j, f):
    (x, y, w), (x2, y2, w2), (p, q) = i, j, f
    d = x2 * w - x * w2
    e = y2 * w - y * w2
    return q * x * w2 + p * d, q * y * w2 + p * e, q * w * w2


def mirrored_raw(i, l):
    (x, y, w), (a, b, c) = i, l
    n = a * a + b * b
    foot = foot_raw(i, l)
    return 2 * foot[0] - n * x, 2 * foot[1] - n * y, n * w


def round_raw(c, i):
    (xc, yc, wc), (xi, yi, wi) = c, i
    return (
        wc * wi * wi, -2 * xc * wi * wi, -2 * yc * wi * wi,
        2 * (xi * xc + yi * yc) * wi - (xi * xi + yi * yi) * wc,
    )


def determinant(table):
    whole = 0
    for order in permutations(range(len(table))):
        sign = 1
        for first in range(len(order)):
            for second in range(first):
                if order[second] > order[first]:
                    sign = -sign
        product = sign
        for line, place in zip(table, order):
            product = product * line[place]
        whole = whole + product
    return whole


def round3_raw(i, j, k):
    table = [(x * x + y * y, x * w, y * w, w * w) for x, y, w in (i, j, k)]
    left = [determinant([line[:place] + line[place + 1:] for line in table]) for place in range(4)]
    return left[0], -1 * left[1], left[2], -1 * left[3]


def centre_raw(o):
    k, d, e, f = o
    return -d, -e, 2 * k


def polar_raw(o, i):
    (k, d, e, f), (x, y, w) = o, i
    return 2 * k * x + d * w, 2 * k * y + e * w, d * x + e * y + 2 * f * w


def axis_raw(o, p):
    (k1, d1, e1, f1), (k2, d2, e2, f2) = o, p
    return d1 * k2 - d2 * k1, e1 * k2 - e2 * k1, f1 * k2 - f2 * k1


def mirroredround_raw(o, l):
    (k, d, e, f), (a, b, c) = o, l
    s = a * a + b * b
    u = a * d + b * e - 2 * c * k
    return s * k, s * d - 2 * a * u, s * e - 2 * b * u, s * f - 2 * c * u


def curve_raw(o):
    if len(o) == 6:
        return o
    k, d, e, f = o
    return k, 0, k, d, e, f


def five_raw(i, j, k, l, m):
    def worth(line):
        return line[0] * m[0] + line[1] * m[1] + line[2] * m[2]

    def product(one, other):
        (a, b, c), (a2, b2, c2) = one, other
        return a * a2, a * b2 + b * a2, b * b2, a * c2 + c * a2, b * c2 + c * b2, c * c2

    ij, kl, ik, jl = through_raw(i, j), through_raw(k, l), through_raw(i, k), through_raw(j, l)
    first = worth(ik) * worth(jl)
    second = worth(ij) * worth(kl)
    return tuple(first * one - second * other for one, other in zip(product(ij, kl), product(ik, jl)))


def curve_centre_raw(v):
    a, b, c, d, e, f = v
    return b * e - 2 * c * d, b * d - 2 * a * e, 4 * a * c - b * b


def curve_polar_raw(v, i):
    (a, b, c, d, e, f), (x, y, w) = v, i
    return 2 * a * x + b * y + d * w, b * x + 2 * c * y + e * w, d * x + e * y + 2 * f * w


def again_raw(v, l, i):
    a, b, c, d, e, f = v
    (la, lb, lc), (x, y, w) = l, i
    p, q, r = curve_polar_raw(v, i)
    g = a * lb * lb - b * la * lb + c * la * la
    h = la * q - lb * p
    return g * x + h * lb, g * y - h * la, g * w


def roll_raw(v, i, t):
    return again_raw(v, (-t, 1, 0), i)


# What the sayings on come to, of a line and of a circle or a curve.

def on_line(i, l):
    return l[0] * i[0] + l[1] * i[1] + l[2] * i[2]


def on_bent(i, v):
    a, b, c, d, e, f = curve_raw(v)
    x, y, w = i
    return a * x * x + b * x * y + c * y * y + d * x * w + e * y * w + f * w * w


# Behind here the steps of point 12.

KINDS = {
    "free": "point", "told": "point", "slide": "point", "meet": "point", "foot": "point", "part": "point",
    "mirrored": "point", "centre": "point", "again": "point", "roll": "point",
    "through": "line", "side": "line", "square": "line", "polar": "line", "touch": "line", "axis": "line",
    "round": "circle", "round3": "circle", "mirroredround": "circle", "five": "curve",
}
# p is a point, l a line, o a circle, v a circle or a curve, f a fraction.
ENTRIES = {
    "free": "", "told": "ff", "slide": "pp", "meet": "ll", "foot": "pl", "part": "ppf", "mirrored": "pl",
    "centre": "v", "again": "vlp", "roll": "vp", "through": "pp", "side": "pl", "square": "pl", "polar": "vp",
    "touch": "vp", "axis": "oo", "round": "pp", "round3": "ppp", "mirroredround": "ol", "five": "ppppp",
}
NAMED = {"p": ("point",), "l": ("line",), "o": ("circle",), "v": ("circle", "curve")}
BRINGS = {"free": 2, "slide": 1, "roll": 1}


def raw_by(step, things, frees):
    """What the raw rule of a step makes of earlier things, frees being the free numbers that it brings."""
    word, rest = step[0], [things[entry] if isinstance(entry, int) else entry for entry in step[1:]]
    if word in ("free", "told", "slide", "part", "meet", "foot", "mirrored", "through", "side", "square", "axis",
                "round", "round3", "mirroredround", "five"):
        return globals()[word + "_raw"](*rest, *frees)
    if word == "centre":
        return centre_raw(rest[0]) if len(rest[0]) == 4 else curve_centre_raw(rest[0])
    if word in ("polar", "touch"):
        return polar_raw(*rest) if len(rest[0]) == 4 else curve_polar_raw(*rest)
    return globals()[word + "_raw"](curve_raw(rest[0]), *rest[1:], *frees)


def musts_by(step, things, raw):
    word = step[0]
    if word in ("through", "polar", "touch", "axis"):
        return [raw[0], raw[1]]
    if word in ("meet", "centre", "again", "roll"):
        return [raw[2]]
    if word == "round3":
        return [raw[0]]
    if word == "five":
        return list(raw)
    if word == "round":
        (x, y, w), (x2, y2, w2) = things[step[1]], things[step[2]]
        return [x2 * w - x * w2, y2 * w - y * w2]
    return []


def frees_of(steps):
    """Of each step the numbers of the free numbers that it brings."""
    found, count = [], 0
    for step in steps:
        found.append(list(range(count, count + BRINGS.get(step[0], 0))))
        count += len(found[-1])
    return found


def weights_by(steps, sizes=False):
    things = []
    for step, frees in zip(steps, frees_of(steps)):
        raw = (1, 1, 1)
        if not sizes or step[0] != "told":
            raw = raw_by(step, [tuple(Weight(one) for one in thing) for thing in things], [Weight(1) for _ in frees])
            raw = tuple(weight(one).weight for one in raw)
        things.append(raw)
    return things


def raw_paper(steps, turn=None):
    """A paper whose shares are all 1, so that nothing is divided out, but - 1 at the step turn."""
    things, paper = [], []
    for k, (step, frees) in enumerate(zip(steps, frees_of(steps))):
        sign = -1 if k == turn else 1
        things.append(tuple(sign * plain(some) for some in raw_by(step, things, [free(number) for number in frees])))
        paper.append((plain(sign).told(), told(things[-1])))
    return paper


def made(seed, terms, places, most, size):
    """A polynomial of chance terms, in so many free numbers, with powers and numbers of at most so much."""
    chance = random.Random(seed)
    found = []
    for _ in range(terms):
        powers = tuple(chance.randint(0, most) for _ in range(places))
        found.append((powers, chance.choice((-1, 1)) * chance.randint(1, size)))
    return plain(found).told()


def made_thing(seed, count, terms, places, most, size):
    return tuple(made(100 * seed + k, terms, places, most, size) for k in range(count))


def lists_in(some):
    """All lists in lists and tuples, themselves included."""
    if isinstance(some, (list, tuple)):
        found = [some] if isinstance(some, list) else []
        return found + [inner for part in some for inner in lists_in(part)]
    return []


def spoil(some):
    """Changes each list in lists and tuples."""
    for one in lists_in(some):
        one.insert(0, ((77,), 7))
        one.append(((5, 5), -5))


def check_form(case, some):
    """That it is a polynomial as point 6 tells."""
    case.assertIs(some.__class__, list)
    for term in some:
        case.assertIs(term.__class__, tuple)
        case.assertEqual(len(term), 2)
        case.assertIs(term[0].__class__, tuple)
        case.assertTrue(all(power.__class__ is int and power >= 0 for power in term[0]))
        case.assertFalse(term[0] and term[0][-1] == 0, term)
        case.assertIs(term[1].__class__, int)
        case.assertNotEqual(term[1], 0)
        case.assertLessEqual(len(term[0]), 6)
    for before, behind in zip(some, some[1:]):
        case.assertGreater(before[0], behind[0])


def check_own(case, ask, handed):
    """Point 2 of one call: what is handed in stays, and what is told is the asker's own and told again."""
    mine = deepcopy(handed)
    answer = ask(*mine)
    case.assertEqual(mine, handed)
    before = deepcopy(answer)
    own = [id(one) for one in lists_in(answer)]
    case.assertEqual(len(own), len(set(own)), "one list at two places")
    case.assertFalse(set(own) & {id(one) for one in lists_in(mine)}, "a list that was handed in")
    spoil(answer)
    case.assertEqual(mine, handed)
    case.assertEqual(ask(*mine), before)
    case.assertEqual(ask(*deepcopy(handed)), before)
    kept = ask(*mine)
    spoil(mine)
    case.assertEqual(kept, before)


def check_rule(case, rule, handed, worth):
    """A raw rule: the polynomials that it is to tell, their form, and point 2."""
    answer = rule(*deepcopy(handed))
    case.assertIs(answer.__class__, tuple)
    case.assertEqual(len(answer), len(worth))
    for some, due in zip(answer, worth):
        check_form(case, some)
        case.assertEqual(some, plain(due).told())
    check_own(case, rule, handed)
    return answer

"""What sayings come to: a rule for each word, over any amounts, which tells a list of what is to be 0."""

from everydraw.curves import six_of
from everydraw.rounds import middle_worth, round_row
from everydraw.sums import crossed, determinant, dotted, square_of_way, way_between

# Of each word of a saying the kinds of what it names.
SAYINGS = {
    "inline": ("point", "point", "point"),
    "one": ("line", "line", "line"),
    "on": ("point", "trace"),
    "aside": ("line", "line"),
    "asquare": ("line", "line"),
    "same": ("point", "point"),
    "sameline": ("line", "line"),
    "far": ("point", "point", "point", "point"),
    "areas": ("point", "point", "point", "point", "point", "point"),
    "ring": ("point", "point", "point", "point"),
    "angles": ("point", "point", "point", "point", "point", "point"),
    "evenpair": ("point", "point", "point", "point"),
    "touches": ("line", "circle"),
    "touching": ("circle", "circle"),
    "squareround": ("circle", "circle"),
    "evenround": ("circle", "circle"),
}


def table_worths(total, named):
    return [determinant(total, named)]


def trace_worth(total, trace, i):
    if len(trace) == 3:
        return dotted(total, trace, i)
    v = six_of(total, trace)
    return total([
        (1, v[0], i[0], i[0]), (1, v[1], i[0], i[1]), (1, v[2], i[1], i[1]),
        (1, v[3], i[0], i[2]), (1, v[4], i[1], i[2]), (1, v[5], i[2], i[2]),
    ])


def on_worths(total, named):
    return [trace_worth(total, named[1], named[0])]


def across_worth(total, one, other):
    return total([(1, one[0], other[1]), (-1, one[1], other[0])])


def aside_worths(total, named):
    return [across_worth(total, named[0], named[1])]


def along_worth(total, one, other):
    return total([(1, one[0], other[0]), (1, one[1], other[1])])


def asquare_worths(total, named):
    return [along_worth(total, named[0], named[1])]


# The way back: it has the signs that the saying is told with.
def same_worths(total, named):
    return list(way_between(total, named[1], named[0]))


def sameline_worths(total, named):
    return list(crossed(total, named[0], named[1]))


def far_worth(total, i, j, k, n):
    one = square_of_way(total, way_between(total, i, j))
    other = square_of_way(total, way_between(total, k, n))
    return total([(1, one, k[2], k[2], n[2], n[2]), (-1, other, i[2], i[2], j[2], j[2])])


def far_worths(total, named):
    return [far_worth(total, named[0], named[1], named[2], named[3])]


def areas_worths(total, named):
    one = determinant(total, named[:3])
    other = determinant(total, named[3:])
    return [total([
        (1, one, named[3][2], named[4][2], named[5][2]), (-1, other, named[0][2], named[1][2], named[2][2]),
    ])]


def ring_worths(total, named):
    return [determinant(total, [round_row(total, point) for point in named])]


# G and H of point 16: the ways from the second point to the first and to the third, crossed and dotted.
def angle_worths(total, named):
    one = way_between(total, named[1], named[0])
    other = way_between(total, named[1], named[2])
    return (across_worth(total, one, other), along_worth(total, one, other))


def angles_worths(total, named):
    return [across_worth(total, angle_worths(total, named[:3]), angle_worths(total, named[3:]))]


# R of point 16 in X, in Y where the place is 1.
def reach_worth(total, place, i, j):
    return total([(1, i[place], j[2]), (-1, j[place], i[2])])


def even_worth(total, place, i, j, k, n):
    return total([
        (1, reach_worth(total, place, i, k), reach_worth(total, place, j, n)),
        (1, reach_worth(total, place, i, n), reach_worth(total, place, j, k)),
    ])


def evenpair_worths(total, named):
    return [
        determinant(total, named[:3]),
        determinant(total, [named[0], named[1], named[3]]),
        even_worth(total, 0, named[0], named[1], named[2], named[3]),
        even_worth(total, 1, named[0], named[1], named[2], named[3]),
    ]


# M of point 16: the square of a circle's width, up to its K.
def width_worth(total, o):
    return total([(1, o[1], o[1]), (1, o[2], o[2]), (-4, o[0], o[3])])


# V of point 16, which is 0 where the circles cross at a square.
def crossing_worth(total, o, p):
    return total([(1, o[1], p[1]), (1, o[2], p[2]), (-2, o[0], p[3]), (-2, p[0], o[3])])


def touches_worth(total, l, o):
    middle = middle_worth(total, o, l)
    return total([(1, middle, middle), (-1, square_of_way(total, l), width_worth(total, o))])


def touches_worths(total, named):
    return [touches_worth(total, named[0], named[1])]


def touching_worth(total, o, p):
    crossing = crossing_worth(total, o, p)
    return total([(1, crossing, crossing), (-1, width_worth(total, o), width_worth(total, p))])


def touching_worths(total, named):
    return [touching_worth(total, named[0], named[1])]


def squareround_worths(total, named):
    return [crossing_worth(total, named[0], named[1])]


def evenround_worth(total, o, p):
    return total([(1, p[0], p[0], width_worth(total, o)), (-1, o[0], o[0], width_worth(total, p))])


def evenround_worths(total, named):
    return [evenround_worth(total, named[0], named[1])]


RULES = {
    "inline": table_worths,
    "one": table_worths,
    "on": on_worths,
    "aside": aside_worths,
    "asquare": asquare_worths,
    "same": same_worths,
    "sameline": sameline_worths,
    "far": far_worths,
    "areas": areas_worths,
    "ring": ring_worths,
    "angles": angles_worths,
    "evenpair": evenpair_worths,
    "touches": touches_worths,
    "touching": touching_worths,
    "squareround": squareround_worths,
    "evenround": evenround_worths,
}


def worths_of(total, saying, things):
    rule = RULES[saying[0]]
    return rule(total, [things[number] for number in saying[1:]])

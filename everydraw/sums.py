"""Sums of products that several raw rules share, of the amounts that a total adds up (see everydraw/amounts.py)."""


def crossed(total, one, other):
    return (
        total([(1, one[1], other[2]), (-1, one[2], other[1])]),
        total([(1, one[2], other[0]), (-1, one[0], other[2])]),
        total([(1, one[0], other[1]), (-1, one[1], other[0])]),
    )


def dotted(total, one, other):
    return total([(1, first, second) for first, second in zip(one, other)])


# D and E of point 9.
def way_between(total, i, j):
    return (
        total([(1, j[0], i[2]), (-1, i[0], j[2])]),
        total([(1, j[1], i[2]), (-1, i[1], j[2])]),
    )


# N of point 9, S of point 10.
def square_of_way(total, l):
    return total([(1, l[0], l[0]), (1, l[1], l[1])])


# What is left of a table where the same place is taken out of each line.
def without_place(lines, place):
    return [line[:place] + line[place + 1:] for line in lines]


def determinant(total, lines):
    if len(lines) == 2:
        return total([(1, lines[0][0], lines[1][1]), (-1, lines[0][1], lines[1][0])])
    parts = []
    sign = 1
    for place, amount in enumerate(lines[0]):
        parts.append((sign, amount, determinant(total, without_place(lines[1:], place))))
        sign = -sign
    return total(parts)

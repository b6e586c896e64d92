"""Drawings for the tests to ask about."""

O = ("told", (0, 1), (0, 1))
P = ("told", (1, 1), (0, 1))
Q = ("told", (0, 1), (1, 1))
FREE = ("free",)

# Each of the twenty words, some several times; four free numbers.
ALL_WORDS = [
    FREE,                           # 0
    ("told", (1, 2), (-3, 4)),      # 1
    ("told", (5, 1), (0, 1)),       # 2
    ("told", (-2, 3), (7, 5)),      # 3
    ("through", 1, 2),              # 4
    ("slide", 1, 2),                # 5
    ("foot", 0, 4),                 # 6
    ("mirrored", 3, 4),             # 7
    ("part", 0, 3, (-5, 7)),        # 8
    ("side", 0, 4),                 # 9
    ("square", 3, 4),               # 10
    ("meet", 9, 10),                # 11
    ("round", 0, 1),                # 12
    ("round3", 1, 2, 0),            # 13
    ("centre", 12),                 # 14
    ("polar", 12, 3),               # 15
    ("touch", 12, 1),               # 16
    ("axis", 12, 13),               # 17
    ("mirroredround", 12, 4),       # 18
    ("again", 12, 4, 1),            # 19
    ("roll", 13, 2),                # 20
    ("five", 0, 1, 2, 3, 7),        # 21
    ("centre", 21),                 # 22
    ("again", 21, 4, 2),            # 23
]
CURVES = [
    FREE, O, P, Q, ("told", (2, 1), (3, 1)), ("five", 1, 2, 3, 4, 0), ("polar", 5, 3), ("touch", 5, 1), ("roll", 5, 4),
    ("centre", 5), ("through", 1, 0), ("again", 5, 10, 1), ("again", 5, 10, 0),
]
SIX_FREE = [FREE, FREE, FREE, ("through", 0, 1), ("round", 0, 2), ("round3", 0, 1, 2), ("foot", 2, 3), ("axis", 4, 5)]
# Steps that are made at no place, and what rests on them.
NOWHERE = [
    FREE, O, ("through", 0, 0), ("meet", 2, 2), ("round", 1, 1), ("round3", 0, 0, 1), ("side", 1, 2), ("foot", 1, 2),
    ("centre", 5), ("polar", 5, 1), ("axis", 4, 4), ("five", 0, 0, 0, 1, 1), ("centre", 11), ("again", 5, 2, 0),
    ("mirroredround", 4, 2), ("square", 3, 2), ("part", 3, 3, (1, 2)), ("touch", 11, 1), ("mirrored", 0, 2),
]
PARTS = [FREE, FREE] + [("part", k - 1, k - 2, (-999999, 999998)) for k in range(2, 24)]
SLIDES = [FREE, ("slide", 0, 0), O, ("slide", 2, 0), ("slide", 3, 1), ("through", 4, 0), ("square", 3, 5)]
DRAWINGS = [[], [FREE], [O], ALL_WORDS, CURVES, SIX_FREE, NOWHERE, PARTS, SLIDES]

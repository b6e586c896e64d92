"""Drawings: lists of steps; how they are looked at and refused, and the papers that tell their things."""

from everydraw.amounts import free_poly, free_weight, poly_total, told_fraction, weight_total
from everydraw.curves import again_rule, curve_centre_rule, curve_polar_rule, five_rule, roll_rule
from everydraw.errors import BadKnown, BadStep, BadThing, TooDeep, TooFree, TooMany
from everydraw.fracs import common_divisor, is_fraction, is_whole
from everydraw.lines import foot_rule, mirrored_rule, part_rule, side_rule, square_rule, told_rule
from everydraw.rounds import axis_rule, centre_rule, mirroredround_rule, polar_rule, round_rule, three_rule
from everydraw.sums import crossed, dotted, way_between

MOST_STEPS = 24
MOST_FREE = 6
MOST_POWERS = 1000
MOST_SIZE = 40
MOST_IN_FRACTION = 999999

# Of each word the kind of its step's thing, and behind it what its entries are.
WORDS = {
    "free": ("point",),
    "told": ("point", "fraction", "fraction"),
    "slide": ("point", "point", "point"),
    "meet": ("point", "line", "line"),
    "foot": ("point", "point", "line"),
    "part": ("point", "point", "point", "fraction"),
    "mirrored": ("point", "point", "line"),
    "centre": ("point", "bent"),
    "again": ("point", "bent", "line", "point"),
    "roll": ("point", "bent", "point"),
    "through": ("line", "point", "point"),
    "side": ("line", "point", "line"),
    "square": ("line", "point", "line"),
    "polar": ("line", "bent", "point"),
    "touch": ("line", "bent", "point"),
    "axis": ("line", "circle", "circle"),
    "round": ("circle", "point", "point"),
    "round3": ("circle", "point", "point", "point"),
    "mirroredround": ("circle", "circle", "line"),
    "five": ("curve", "point", "point", "point", "point", "point"),
}
BROUGHT = {"free": 2, "slide": 1, "roll": 1}
# What is due may be one of several kinds; a trace, which sayings alone name, is whatever a point can lie on.
KINDS_DUE = {"bent": ("circle", "curve"), "trace": ("line", "circle", "curve")}


def is_kind(kind, due):
    return kind == due or kind in KINDS_DUE.get(due, ())


# The steps of a drawing, none of which was refused, and what was reckoned of them; firsts are the numbers of the
# first free number that each step brings, or would bring. The paper grows as far as it is asked for.
class Drawing:
    def __init__(self):
        self.steps = []
        self.kinds = []
        self.weights = []
        self.sizes = []
        self.firsts = []
        self.freedoms = 0
        self.paper = []


def brought_by(step):
    return BROUGHT.get(step[0], 0)


def point_rule(total, word, named, fractions):
    if word in ("free", "told"):
        return told_rule(total, fractions[0], fractions[1])
    if word in ("slide", "part"):
        return part_rule(total, named[0], named[1], fractions[0])
    if word == "meet":
        return crossed(total, named[0], named[1])
    if word == "foot":
        return foot_rule(total, named[0], named[1])
    if word == "mirrored":
        return mirrored_rule(total, named[0], named[1])
    if word == "again":
        return again_rule(total, named[0], named[1], named[2])
    if word == "roll":
        return roll_rule(total, named[0], named[1], fractions[0])
    return centre_rule(total, named[0]) if len(named[0]) == 4 else curve_centre_rule(total, named[0])


def line_rule(total, word, named):
    if word == "through":
        return crossed(total, named[0], named[1])
    if word == "side":
        return side_rule(total, named[0], named[1])
    if word == "square":
        return square_rule(total, named[0], named[1])
    if word == "axis":
        return axis_rule(total, named[0], named[1])
    if len(named[0]) == 4:
        return polar_rule(total, named[0], named[1])
    return curve_polar_rule(total, named[0], named[1])


def bent_rule(total, word, named):
    if word == "round":
        return round_rule(total, named[0], named[1])
    if word == "round3":
        return three_rule(total, named[0], named[1], named[2])
    if word == "mirroredround":
        return mirroredround_rule(total, named[0], named[1])
    return five_rule(total, named[0], named[1], named[2], named[3], named[4])


def named_by(step, things):
    return [things[entry] for entry in step[1:] if isinstance(entry, int)]


# What the raw rule of a step makes of the earlier things, brought being the fractions of its free numbers.
def raw_of(total, step, things, brought):
    named = named_by(step, things)
    kind = WORDS[step[0]][0]
    if kind == "point":
        told = [told_fraction(total, entry) for entry in step[1:] if isinstance(entry, tuple)]
        return point_rule(total, step[0], named, brought + told)
    if kind == "line":
        return line_rule(total, step[0], named)
    return bent_rule(total, step[0], named)


# The musts of a step, raw being what its raw rule makes.
def musts_by(total, step, things, raw):
    word = step[0]
    if word in ("through", "polar", "touch", "axis"):
        return list(raw[:2])
    if word in ("meet", "centre", "again", "roll"):
        return [raw[2]]
    if word == "round3":
        return [raw[0]]
    if word == "five":
        return list(raw)
    if word == "round":
        named = named_by(step, things)
        return list(way_between(total, named[0], named[1]))
    return []


def free_polys(first, count):
    return [free_poly(k) for k in range(first, first + count)]


def content_of(polys):
    content = 0
    for some in polys:
        for powers, number in some:
            content = common_divisor(content, number)
            if content == 1:
                return 1
    return max(content, 1)


# What the raw rule of a step makes of the polynomials of the earlier things.
def raw_at(drawing, k, things):
    step = drawing.steps[k]
    return raw_of(poly_total, step, things, free_polys(drawing.firsts[k], brought_by(step)))


# The share is the greatest number that divides all that the raw rule makes: without that the numbers of parts of
# parts would double their length step by step.
def paper_entry(raw):
    content = content_of(raw)
    thing = tuple([[(powers, number // content) for powers, number in some] for some in raw])
    return (poly_total([(content,)]), thing)


def things_in(paper):
    return [entry[1] for entry in paper]


def write_paper(drawing):
    things = things_in(drawing.paper)
    for k in range(len(things), len(drawing.steps)):
        drawing.paper.append(paper_entry(raw_at(drawing, k, things)))
        things.append(drawing.paper[k][1])


def is_entry(entry, due):
    if due != "fraction":
        return is_whole(entry)
    return is_fraction(entry) and abs(entry[0]) <= MOST_IN_FRACTION and entry[1] <= MOST_IN_FRACTION


def is_step(step):
    if not isinstance(step, tuple) or len(step) == 0 or not isinstance(step[0], str) or step[0] not in WORDS:
        return False
    due = WORDS[step[0]][1:]
    return len(step) == len(due) + 1 and all([is_entry(entry, one) for entry, one in zip(step[1:], due)])


def is_thing(kinds, number, due):
    return 0 <= number < len(kinds) and is_kind(kinds[number], due)


def names_things(kinds, step):
    due = WORDS[step[0]][1:]
    return all([is_thing(kinds, entry, one) for entry, one in zip(step[1:], due) if one != "fraction"])


# How many ways there are to choose the free numbers out of them and the weight.
def count_of_powers(freedoms, weight):
    count = 1
    for k in range(1, freedoms + 1):
        count = count * (weight + k) // k
    return count


def weights_by(step, things):
    return raw_of(weight_total, step, things, [free_weight() for k in range(brought_by(step))])


def sizes_by(step, things):
    return (1, 1, 1) if step[0] == "told" else weights_by(step, things)


# Twice what the saying on comes to is the polar at the point itself.
def lies_on_bent(v, i):
    polar = polar_rule(poly_total, v, i) if len(v) == 4 else curve_polar_rule(poly_total, v, i)
    return dotted(poly_total, polar, i) == []


def is_known(drawing, step):
    if step[0] not in ("again", "touch", "roll"):
        return True
    write_paper(drawing)
    named = named_by(step, things_in(drawing.paper))
    if step[0] == "again":
        return dotted(poly_total, named[1], named[2]) == [] and lies_on_bent(named[0], named[2])
    return lies_on_bent(named[0], named[1])


def lay_step(drawing, k, step):
    if not is_step(step):
        raise BadStep(k)
    if not names_things(drawing.kinds, step):
        raise BadThing(k)
    freedoms = drawing.freedoms + brought_by(step)
    if freedoms > MOST_FREE:
        raise TooFree(k)
    weights = weights_by(step, drawing.weights)
    sizes = sizes_by(step, drawing.sizes)
    if count_of_powers(freedoms, max(weights)) > MOST_POWERS or max(sizes) > MOST_SIZE:
        raise TooDeep(k)
    if not is_known(drawing, step):
        raise BadKnown(k)
    drawing.steps.append(step)
    drawing.kinds.append(WORDS[step[0]][0])
    drawing.weights.append(weights)
    drawing.sizes.append(sizes)
    drawing.firsts.append(drawing.freedoms)
    drawing.freedoms = freedoms


def drawing_of(steps):
    if len(steps) > MOST_STEPS:
        raise TooMany("a drawing has too many steps")
    drawing = Drawing()
    for k, step in enumerate(steps):
        lay_step(drawing, k, step)
    return drawing


def look_at(steps):
    drawing_of(steps)


def kinds_of(steps):
    return drawing_of(steps).kinds


def weights_of(steps):
    return drawing_of(steps).weights


def freedoms_of(steps):
    return drawing_of(steps).freedoms


def paper_of(steps):
    drawing = drawing_of(steps)
    write_paper(drawing)
    return drawing.paper


def musts_of(steps, paper):
    drawing = drawing_of(steps)
    things = things_in(paper)
    found = []
    for k, step in enumerate(drawing.steps):
        found.append(musts_by(poly_total, step, things, raw_at(drawing, k, things)))
    return found

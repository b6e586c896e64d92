"""Drawings drawn exactly, at a place: a list of a fraction for each free number."""

from everydraw.amounts import whole_total
from everydraw.drawings import brought_by, drawing_of, musts_by, raw_of
from everydraw.errors import BadPlace, CantMake
from everydraw.fracs import common_divisor, fraction_of, is_fraction


# The same up to a common product: without a common divisor, the first one that is not 0 above 0.
def lowest(numbers):
    common = 0
    for number in numbers:
        common = common_divisor(common, number)
    for number in numbers:
        if number != 0:
            return tuple([one // common if number > 0 else -one // common for one in numbers])
    return numbers


# The things of a drawing at a place, up to the first step that is not made there. The raw rules reckon with whole
# numbers alone, as the free numbers go into them with their bottoms.
def things_at(drawing, place):
    things = []
    for k, step in enumerate(drawing.steps):
        first = drawing.firsts[k]
        raw = raw_of(whole_total, step, things, place[first:first + brought_by(step)])
        musts = musts_by(whole_total, step, things, raw)
        if len(musts) > 0 and all([number == 0 for number in musts]):
            return things
        things.append(lowest(raw))
    return things


def undone_among(drawing, things):
    return len(things) if len(things) < len(drawing.steps) else None


def shown_thing(kind, thing):
    if kind == "point":
        return (kind, fraction_of(thing[0], thing[2]), fraction_of(thing[1], thing[2]))
    if kind == "circle":
        double = 2 * thing[0]
        square = fraction_of(thing[1] * thing[1] + thing[2] * thing[2] - 2 * double * thing[3], double * double)
        return (kind, fraction_of(-thing[1], double), fraction_of(-thing[2], double), square)
    return (kind,) + thing


def is_place(drawing, place):
    return isinstance(place, list) and len(place) == drawing.freedoms and all([is_fraction(one) for one in place])


def look_place(drawing, place):
    if not is_place(drawing, place):
        raise BadPlace("a place has one fraction for each free number")


# All things of a drawing at a place.
def made_at(drawing, place):
    look_place(drawing, place)
    things = things_at(drawing, place)
    if undone_among(drawing, things) is not None:
        raise CantMake(len(things))
    return things


def drawn_at(steps, place):
    drawing = drawing_of(steps)
    things = made_at(drawing, place)
    return [shown_thing(kind, thing) for kind, thing in zip(drawing.kinds, things)]


def undone_at(steps, place):
    drawing = drawing_of(steps)
    look_place(drawing, place)
    return undone_among(drawing, things_at(drawing, place))


# All places of so many whole numbers from 0 to the greatest one that has it, the least as lists first.
def places_with(count, greatest):
    places = [[]]
    for k in range(count):
        longer = []
        for place in places:
            longer.extend([place + [(number, 1)] for number in range(greatest + 1)])
        places = longer
    return [place for place in places if max([one[0] for one in place], default=0) == greatest]


def first_made(steps, most):
    drawing = drawing_of(steps)
    for greatest in range(most + 1):
        for place in places_with(drawing.freedoms, greatest):
            if undone_among(drawing, things_at(drawing, place)) is None:
                return place
    return None

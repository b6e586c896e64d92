"""Chains: steps that rest on given things, laid into a drawing or behind free things; and those that have a name."""

from everydraw.drawings import drawing_of, is_thing, look_at
from everydraw.errors import BadChain, BadThing, NoName
from everydraw.fracs import is_whole

GIVEN_KINDS = ("point", "line", "circle")

# Of each name the kinds of what is given, the steps, and the number of the chain's thing.
CHAINS = {
    "middle": (("point", "point"), (("part", 0, 1, (1, 2)),), 2),
    "height": (("point", "point", "point"), (("through", 1, 2), ("square", 0, 3)), 4),
    "halfline": (("point", "point"), (("through", 0, 1), ("part", 0, 1, (1, 2)), ("square", 3, 2)), 4),
    "roundmiddle": (("point", "point", "point"), (("round3", 0, 1, 2), ("centre", 3)), 4),
    # Two thirds of the way from the first point to the middle of the other two: so it is made of any points.
    "weightpoint": (("point", "point", "point"), (("part", 1, 2, (1, 2)), ("part", 0, 3, (2, 3))), 4),
    "heightpoint": (
        ("point", "point", "point"),
        (("through", 1, 2), ("square", 0, 3), ("through", 0, 2), ("square", 1, 5), ("meet", 4, 6)),
        7,
    ),
    "nineround": (
        ("point", "point", "point"),
        (("part", 1, 2, (1, 2)), ("part", 0, 2, (1, 2)), ("part", 0, 1, (1, 2)), ("round3", 3, 4, 5)),
        6,
    ),
    # Twice the way from the first point to the middle of the other two.
    "fourth": (("point", "point", "point"), (("part", 1, 2, (1, 2)), ("part", 0, 3, (2, 1))), 4),
}


# Whether the numbers in a step name what is given or an earlier one of so many things; what else is wrong with it is
# found by the look at the drawing that is made.
def names_within(step, count):
    if not isinstance(step, tuple):
        return True
    return all([0 <= entry < count for entry in step[1:] if is_whole(entry)])


def look_chain(some):
    kinds = some[0]
    steps = some[1]
    if not all([kind in GIVEN_KINDS for kind in kinds]):
        raise BadChain("a chain is given points, lines and circles alone")
    if not is_whole(some[2]) or some[2] < 0 or some[2] >= len(kinds) + len(steps):
        raise BadChain("a chain's number names no thing of it")
    if not all([names_within(step, len(kinds) + k) for k, step in enumerate(steps)]):
        raise BadChain("a step of a chain names what is neither given nor an earlier thing of the chain")


def turned(step, numbers):
    if not isinstance(step, tuple):
        return step
    return step[:1] + tuple([numbers[entry] if is_whole(entry) else entry for entry in step[1:]])


# The numbers are those that the given things have in the drawing.
def with_chain(steps, some, numbers):
    whole = list(steps)
    known = list(numbers)
    for step in some[1]:
        whole.append(turned(step, known))
        known.append(len(whole) - 1)
    look_at(whole)
    return (whole, known[some[2]])


def free_steps(kind, first):
    if kind == "point":
        return [("free",)]
    return [("free",), ("free",), ("through" if kind == "line" else "round", first, first + 1)]


def free_drawing(some):
    look_chain(some)
    steps = []
    numbers = []
    for kind in some[0]:
        steps.extend(free_steps(kind, len(steps)))
        numbers.append(len(steps) - 1)
    return with_chain(steps, some, numbers)


def are_given(drawing, kinds, given):
    if len(given) != len(kinds) or not all([is_whole(number) for number in given]):
        return False
    return all([is_thing(drawing.kinds, number, kind) for number, kind in zip(given, kinds)])


def laid_in(steps, some, given):
    drawing = drawing_of(steps)
    look_chain(some)
    if not are_given(drawing, some[0], given):
        raise BadThing(len(drawing.steps))
    return with_chain(drawing.steps, some, given)


def chain_of(name):
    if not isinstance(name, str) or name not in CHAINS:
        raise NoName("no chain has this name")
    found = CHAINS[name]
    return (list(found[0]), list(found[1]), found[2])

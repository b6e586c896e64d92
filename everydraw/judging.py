"""The judge, who knows nothing of how an answer was found: he multiplies and adds polynomials, or draws at a place."""

from everydraw.amounts import poly_total
from everydraw.answers import Always, Fails, Never, all_nought, is_nowhere
from everydraw.drawings import musts_by, raw_at
from everydraw.exact import is_place, things_at, undone_among
from everydraw.fracs import is_whole
from everydraw.polys import PLACES, poly_times
from everydraw.sayings import asked_drawing, holds_among
from everydraw.worths import worths_of

# A paper's lists and tuples stand within one another six deep, a place's two. What stands deeper than this is wrong
# whatever it is, so that it need not be kept.
DEEPEST = 12


def copied(some, depth=0):
    if not isinstance(some, (list, tuple)):
        return some
    if depth == DEEPEST:
        return None
    parts = [copied(part, depth + 1) for part in some]
    return parts if isinstance(some, list) else tuple(parts)


def always_by(paper):
    return Always(copied(paper))


def never_by(step, paper):
    return Never(copied(step), copied(paper))


def fails_by(place):
    return Fails(copied(place))


def are_powers(some):
    if not isinstance(some, tuple) or len(some) > PLACES or not all([is_whole(power) for power in some]):
        return False
    return all([power >= 0 for power in some]) and (len(some) == 0 or some[-1] != 0)


def is_term(some):
    return isinstance(some, tuple) and len(some) == 2 and are_powers(some[0]) and is_whole(some[1]) and some[1] != 0


def is_poly(some):
    if not isinstance(some, list) or not all([is_term(term) for term in some]):
        return False
    return all([some[k][0] > some[k + 1][0] for k in range(len(some) - 1)])


# Whether it is a share and a tuple, and the share times each of the tuple is, in order, what the raw rule makes.
def is_entry(entry, raw):
    if not isinstance(entry, tuple) or len(entry) != 2 or not is_poly(entry[0]) or entry[0] == []:
        return False
    thing = entry[1]
    if not isinstance(thing, tuple) or len(thing) != len(raw) or not all([is_poly(some) for some in thing]):
        return False
    return all([poly_times(entry[0], some) == due for some, due in zip(thing, raw)])


def musts_at(drawing, k, things, raw):
    return musts_by(poly_total, drawing.steps[k], things, raw)


# The things of a paper of the first steps, or None where it is no paper of so many or one of them is made nowhere.
def things_shown(drawing, paper, count):
    if not isinstance(paper, list) or len(paper) != count:
        return None
    things = []
    for k, entry in enumerate(paper):
        raw = raw_at(drawing, k, things)
        if not is_entry(entry, raw) or is_nowhere(musts_at(drawing, k, things, raw)):
            return None
        things.append(entry[1])
    return things


def shows_always(drawing, saying, paper):
    things = things_shown(drawing, paper, len(drawing.steps))
    return things is not None and all_nought(worths_of(poly_total, saying, things))


def shows_never(drawing, step, paper):
    if not is_whole(step) or step < 0 or step >= len(drawing.steps):
        return False
    things = things_shown(drawing, paper, step)
    return things is not None and is_nowhere(musts_at(drawing, step, things, raw_at(drawing, step, things)))


def shows_failing(drawing, saying, place):
    if not is_place(drawing, place):
        return False
    things = things_at(drawing, place)
    return undone_among(drawing, things) is None and not holds_among(saying, things)


def judge(steps, saying, found):
    drawing = asked_drawing(steps, saying)
    if isinstance(found, Always):
        return shows_always(drawing, saying, found.paper)
    if isinstance(found, Never):
        return shows_never(drawing, found.step, found.paper)
    return isinstance(found, Fails) and shows_failing(drawing, saying, found.place)

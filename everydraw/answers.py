"""The answer: of a drawing and a saying, whether a step is made nowhere, the saying always holds, or where it fails."""

from everydraw.amounts import poly_total
from everydraw.drawings import musts_by, things_in, write_paper
from everydraw.exact import things_at, undone_among
from everydraw.polys import poly_of, power_at, raised
from everydraw.sayings import asked_drawing, comes_to_by, holds_among

# Places that are looked at ahead of all polynomials: most sayings that fail somewhere fail at one of these. Nothing
# hangs on which they are.
PROBES = ((3, 5, 11, 7, 13, 2), (7, 4, 2, 9, 5, 8), (1, 6, 8, 3, 10, 4))


class Answer:
    def word(self):
        return "answer"


class Always(Answer):
    def __init__(self, paper):
        self.paper = paper

    def word(self):
        return "always"


class Never(Answer):
    def __init__(self, step, paper):
        self.step = step
        self.paper = paper

    def word(self):
        return "never"


class Fails(Answer):
    def __init__(self, place):
        self.place = place

    def word(self):
        return "fails"


# The probes at which all steps are made, each a tuple of the place and the things there.
def made_probes(drawing):
    found = []
    for numbers in PROBES:
        place = [(number, 1) for number in numbers[:drawing.freedoms]]
        things = things_at(drawing, place)
        if undone_among(drawing, things) is None:
            found.append((place, things))
    return found


def failing_place(saying, probes):
    for place, things in probes:
        if not holds_among(saying, things):
            return place
    return None


def all_nought(polys):
    return all([some == [] for some in polys])


def is_nowhere(musts):
    return len(musts) > 0 and all_nought(musts)


# By the paper's own tuples: where the raw rule's are 0, these are, too, as a share is not 0.
def paper_musts(drawing):
    write_paper(drawing)
    things = things_in(drawing.paper)
    return [musts_by(poly_total, step, things, things[k]) for k, step in enumerate(drawing.steps)]


def nowhere_step(drawing):
    for k, musts in enumerate(paper_musts(drawing)):
        if is_nowhere(musts):
            return k
    return None


def put_in(some, k, number):
    terms = []
    for powers, part in some:
        power = power_at(powers, k)
        left = powers[:k] + (0,) + powers[k + 1:] if power > 0 else powers
        terms.append((left, part * raised(number, power)))
    return poly_of(terms)


# A place at which none of these polynomials is 0, none of them being []: free number by free number, the least one that
# leaves none of them []. As a polynomial has no more noughts than its power, one is soon found.
def place_beside(polys, freedoms):
    place = []
    for k in range(freedoms):
        number = 0
        left = [put_in(some, k, number) for some in polys]
        while [] in left:
            number += 1
            left = [put_in(some, k, number) for some in polys]
        place.append((number, 1))
        polys = left
    return place


def first_other(polys):
    for some in polys:
        if some != []:
            return some
    return []


# A place at which all steps are made and not all that the saying comes to is 0.
def reckoned_place(drawing, worths):
    polys = [first_other(musts) for musts in paper_musts(drawing) if len(musts) > 0]
    return place_beside(polys + [first_other(worths)], drawing.freedoms)


def answer_of(steps, saying):
    drawing = asked_drawing(steps, saying)
    probes = made_probes(drawing)
    place = failing_place(saying, probes)
    if place is not None:
        return Fails(place)
    step = nowhere_step(drawing)
    if step is not None:
        return Never(step, drawing.paper[:step])
    worths = comes_to_by(saying, drawing.paper)
    if all_nought(worths):
        return Always(drawing.paper)
    return Fails(reckoned_place(drawing, worths))

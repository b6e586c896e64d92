"""Sayings: how they are looked at and refused, what they come to by a paper, and whether they hold at a place."""

from everydraw.amounts import poly_total, weight_total, whole_total
from everydraw.drawings import count_of_powers, drawing_of, is_thing, things_in
from everydraw.errors import BadSaying, BadThing, TooDeep
from everydraw.exact import made_at
from everydraw.fracs import is_whole
from everydraw.worths import SAYINGS, worths_of

MOST_POWERS = 4000
MOST_SIZE = 100


def is_saying_word(word):
    return isinstance(word, str) and word in SAYINGS


def is_saying(saying):
    if not isinstance(saying, tuple) or len(saying) == 0 or not is_saying_word(saying[0]):
        return False
    return len(saying) == len(SAYINGS[saying[0]]) + 1 and all([is_whole(number) for number in saying[1:]])


def names_things(drawing, saying):
    due = SAYINGS[saying[0]]
    return all([is_thing(drawing.kinds, number, kind) for number, kind in zip(saying[1:], due)])


def is_deep(drawing, saying):
    weight = max(worths_of(weight_total, saying, drawing.weights))
    size = max(worths_of(weight_total, saying, drawing.sizes))
    return count_of_powers(drawing.freedoms, weight) > MOST_POWERS or size > MOST_SIZE


def look_asked(drawing, saying):
    if not is_saying(saying):
        raise BadSaying("a saying has a word and as many numbers as that word is told with")
    if not names_things(drawing, saying):
        raise BadThing(len(drawing.steps))
    if is_deep(drawing, saying):
        raise TooDeep(len(drawing.steps))


def asked_drawing(steps, saying):
    drawing = drawing_of(steps)
    look_asked(drawing, saying)
    return drawing


def comes_to_by(saying, paper):
    return worths_of(poly_total, saying, things_in(paper))


def holds_among(saying, things):
    return all([number == 0 for number in worths_of(whole_total, saying, things)])


def look_saying(steps, saying):
    asked_drawing(steps, saying)


def comes_to(steps, saying, paper):
    asked_drawing(steps, saying)
    return comes_to_by(saying, paper)


def holds_at(steps, saying, place):
    drawing = asked_drawing(steps, saying)
    return holds_among(saying, made_at(drawing, place))

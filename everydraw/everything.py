"""All sayings with some words that hold everywhere in a drawing."""

from everydraw.answers import all_nought, failing_place, made_probes, nowhere_step
from everydraw.drawings import drawing_of, is_kind, is_thing
from everydraw.errors import BadSaying, TooMany
from everydraw.sayings import comes_to_by, is_deep, is_saying_word
from everydraw.worths import SAYINGS

MOST_SAYINGS = 500
# The words that tell the same whatever the order in which their things are named.
ANY_ORDER = ("inline", "one", "ring", "aside", "asquare", "same", "sameline", "touching", "squareround", "evenround")


def told_once(words):
    return list(dict([(word, True) for word in words]))


# Things are named in turn, none twice: of a kind that was due before, so many fewer are left.
def count_of_sayings(drawing, word):
    count = 1
    due = SAYINGS[word]
    for place, kind in enumerate(due):
        fitting = len([one for one in drawing.kinds if is_kind(one, kind)])
        count = count * max(fitting - due[:place].count(kind), 0)
    return count


def look_words(drawing, words):
    if not all([is_saying_word(word) for word in words]):
        raise BadSaying("a word that no saying has")
    if sum([count_of_sayings(drawing, word) for word in told_once(words)]) > MOST_SAYINGS:
        raise TooMany("there are too many sayings with these words")


# Lesser ones first.
def orders_of(drawing, word):
    orders = [()]
    for kind in SAYINGS[word]:
        longer = []
        for order in orders:
            for number in range(len(drawing.kinds)):
                if number not in order and is_thing(drawing.kinds, number, kind):
                    longer.append(order + (number,))
        orders = longer
    return orders


# Whether no lesser order of the same things tells the same by the word's sense.
def is_least(word, order):
    if word in ANY_ORDER:
        return list(order) == sorted(order)
    if word == "far":
        return order[0] < order[1] and order[2] < order[3] and order[0] < order[2]
    return True


def sayings_with(drawing, words):
    found = []
    for word in told_once(words):
        found.extend([(word,) + order for order in orders_of(drawing, word) if is_least(word, order)])
    return found


def holds_everywhere(drawing, probes, saying):
    if is_deep(drawing, saying) or failing_place(saying, probes) is not None:
        return False
    return all_nought(comes_to_by(saying, drawing.paper))


def looked_drawing(steps, words):
    drawing = drawing_of(steps)
    look_words(drawing, words)
    return drawing


def those_that_hold(drawing, some):
    if len(some) == 0 or nowhere_step(drawing) is not None:
        return []
    probes = made_probes(drawing)
    return [saying for saying in some if holds_everywhere(drawing, probes, saying)]


def all_sayings(steps, words):
    drawing = looked_drawing(steps, words)
    return those_that_hold(drawing, sayings_with(drawing, words))


def new_sayings(steps, words):
    drawing = looked_drawing(steps, words)
    last = len(drawing.steps) - 1
    return those_that_hold(drawing, [saying for saying in sayings_with(drawing, words) if last in saying])

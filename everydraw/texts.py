"""Drawings and sayings as texts, and texts read as these."""

from everydraw.drawings import WORDS, drawing_of, is_entry, look_at
from everydraw.errors import BadName, BadSaying, NoText
from everydraw.fracs import is_fraction
from everydraw.sayings import is_saying, is_saying_word
from everydraw.worths import SAYINGS

LETTERS = "abcdefghijklmnopqrstuvwxyz"
FIGURES = "0123456789"
LONGEST_NAME = 8
# No line of a desk is longer, and Python itself refuses to read a number of some thousand figures.
LONGEST_NUMBER = 300


def all_among(text, signs):
    return all([sign in signs for sign in text])


def is_name(some):
    if not isinstance(some, str) or len(some) == 0 or len(some) > LONGEST_NAME:
        return False
    return some[0] in LETTERS and all_among(some, LETTERS + FIGURES)


def look_names(names):
    if not all([is_name(name) for name in names]) or len(dict([(name, True) for name in names])) != len(names):
        raise BadName("a name is none, or comes again")


def shown_fraction(some):
    return str(some[0]) if some[1] == 1 else str(some[0]) + "/" + str(some[1])


# The whole number that figures without needless noughts tell, or None.
def number_in(text):
    if len(text) == 0 or len(text) > LONGEST_NUMBER or not all_among(text, FIGURES):
        return None
    return int(text) if text[0] != "0" or text == "0" else None


# The fraction that a text tells, of whatever many figures, or None.
def fraction_in(text):
    below = text.startswith("-")
    parts = text[1:].split("/") if below else text.split("/")
    numbers = [number_in(part) for part in parts]
    if len(numbers) > 2 or None in numbers or (below and numbers[0] == 0):
        return None
    top = -numbers[0] if below else numbers[0]
    if len(numbers) == 1:
        return (top, 1)
    return (top, numbers[1]) if numbers[1] != 1 and is_fraction((top, numbers[1])) else None


def numbers_by(names):
    return dict([(name, number) for number, name in enumerate(names)])


# What a text stands for where a thing or a fraction is due, or None.
def entry_in(text, due, numbers):
    if due != "fraction":
        return numbers.get(text)
    found = fraction_in(text)
    return found if is_entry(found, due) else None


# The step that a text tells behind these names, or None where it is not of the form.
def step_in(text, names):
    words = text.split(" ")
    if len(words) < 3 or words[1] != "=" or words[2] not in WORDS or not is_name(words[0]) or words[0] in names:
        return None
    due = WORDS[words[2]][1:]
    if len(words) != len(due) + 3:
        return None
    numbers = numbers_by(names)
    entries = [entry_in(word, one, numbers) for word, one in zip(words[3:], due)]
    return None if None in entries else (words[2],) + tuple(entries)


def name_in(text):
    return text.split(" ")[0]


def shown_entry(entry, names):
    return shown_fraction(entry) if isinstance(entry, tuple) else names[entry]


def shown_step(step, name, names):
    return " ".join([name, "=", step[0]] + [shown_entry(entry, names) for entry in step[1:]])


def shown_drawing(steps, names):
    drawing = drawing_of(steps)
    if len(names) != len(drawing.steps):
        raise BadName("there is not one name for each step")
    look_names(names)
    return [shown_step(step, name, names) for step, name in zip(drawing.steps, names)]


def read_drawing(lines):
    steps = []
    names = []
    for k, line in enumerate(lines):
        step = step_in(line, names)
        if step is None:
            raise NoText(k)
        steps.append(step)
        names.append(name_in(line))
    look_at(steps)
    return (steps, names)


def shown_saying(saying, names):
    if not is_saying(saying):
        raise BadSaying("a saying has a word and as many numbers as that word is told with")
    look_names(names)
    if not all([0 <= number < len(names) for number in saying[1:]]):
        raise BadName("a number has no name")
    return " ".join([saying[0]] + [names[number] for number in saying[1:]])


def read_saying(line, names):
    words = line.split(" ")
    numbers = numbers_by(names)
    found = [numbers.get(word) for word in words[1:]]
    if not is_saying_word(words[0]) or len(found) != len(SAYINGS[words[0]]) or None in found:
        raise NoText(0)
    return (words[0],) + tuple(found)

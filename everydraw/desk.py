"""The desk: lines of text that lay steps, ask of them and take them away, each answered with a line."""

from everydraw.answers import answer_of
from everydraw.drawings import look_at
from everydraw.errors import NoLine, NoStep, NoText
from everydraw.everything import all_sayings, new_sayings
from everydraw.exact import drawn_at, undone_at
from everydraw.judging import judge
from everydraw.texts import fraction_in, name_in, read_saying, shown_fraction, shown_saying, step_in

ASKING = ("ask", "paper", "at", "all", "new")


def shown_answer(found, names):
    words = [found.word()]
    if found.word() == "fails":
        words.extend([shown_fraction(one) for one in found.place])
    if found.word() == "never":
        words.append(names[found.step])
    return " ".join(words)


def shown_number(some):
    return shown_fraction(some) if isinstance(some, tuple) else str(some)


def shown_thing(name, thing):
    return " ".join([name] + [shown_number(some) for some in thing[1:]])


def joined(texts):
    return "; ".join(texts) if len(texts) > 0 else "none"


def drawn_line(steps, names, words):
    place = [fraction_in(word) for word in words]
    if None in place:
        raise NoText(0)
    undone = undone_at(steps, place)
    if undone is not None:
        return "stops " + names[undone]
    return joined([shown_thing(name, thing) for name, thing in zip(names, drawn_at(steps, place))])


def judged_line(steps, saying):
    return "yes" if judge(steps, saying, answer_of(steps, saying)) else "no"


def asked_line(steps, names, word, words):
    if word == "at":
        return drawn_line(steps, names, words)
    if word == "all":
        return joined([shown_saying(saying, names) for saying in all_sayings(steps, words)])
    if word == "new":
        return joined([shown_saying(saying, names) for saying in new_sayings(steps, words)])
    saying = read_saying(" ".join(words), names)
    if word == "paper":
        return judged_line(steps, saying)
    return shown_answer(answer_of(steps, saying), names)


class Desk:
    def __init__(self):
        self.steps = []
        self.names = []

    def lay(self, line):
        step = step_in(line, self.names)
        if step is None:
            raise NoText(len(self.steps))
        look_at(self.steps + [step])
        name = name_in(line)
        self.steps.append(step)
        self.names.append(name)
        return "laid " + name

    def undo(self):
        if len(self.steps) == 0:
            raise NoStep("there is no step to take away")
        self.steps.pop()
        self.names.pop()
        return "left " + str(len(self.steps))

    def tell(self, line):
        words = line.split(" ")
        if "" in words:
            raise NoLine("there are blanks elsewhere than told")
        if len(words) > 1 and words[1] == "=":
            return self.lay(line)
        if words == ["undo"]:
            return self.undo()
        if words[0] in ASKING:
            return asked_line(self.steps, self.names, words[0], words[1:])
        raise NoLine("the desk knows no such line")

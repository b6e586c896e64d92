"""Points 1 to 4 over the whole program, and the interface: its names and arguments."""

import importlib
import inspect
import random
import unittest
from copy import deepcopy

import told
from everydraw import errors
from everydraw.answers import Always, Answer, Fails, Never, answer_of
from everydraw.chains import chain_of, free_drawing, laid_in
from everydraw.curves import as_curve, curve_centre, five_curve
from everydraw.desk import Desk
from everydraw.drawings import freedoms_of, kinds_of, look_at, musts_of, paper_of, weights_of
from everydraw.errors import DrawError
from everydraw.everything import all_sayings, new_sayings
from everydraw.exact import drawn_at, first_made, undone_at
from everydraw.fracs import frac_by, frac_sum, fraction_of
from everydraw.judging import always_by, fails_by, judge, never_by
from everydraw.lines import free_point, through_line
from everydraw.polys import divided_by, poly_of, poly_times, worth_at
from everydraw.rounds import round_circle
from everydraw.sayings import comes_to, holds_at, look_saying
from everydraw.texts import read_drawing, read_saying, shown_drawing, shown_saying
from examples import ALL_WORDS, CURVES, DRAWINGS, FREE, NOWHERE, O, P, Q, SIX_FREE, SLIDES
from plain import lists_in, spoil
from told import ENTRIES, sayings_of

INTERFACE = {
    "fracs": "fraction_of(top, bottom) frac_sum(one, other) frac_less(one, other) frac_times(one, other) "
             "frac_by(one, other) frac_lesser(one, other)",
    "polys": "poly_of(terms) poly_sum(one, other) poly_less(one, other) poly_times(one, other) worth_at(some, place) "
             "divided_by(one, other)",
    "lines": "free_point(u, v) told_point(f, g) slide_point(i, j, t) through_line(i, j) meet_point(l, m) "
             "side_line(i, l) square_line(i, l) foot_point(i, l) part_point(i, j, f) mirrored_point(i, l)",
    "rounds": "round_circle(c, i) three_circle(i, j, k) mirrored_circle(o, l) centre_point(o) polar_line(o, i) "
              "axis_line(o, p)",
    "curves": "as_curve(o) five_curve(i, j, k, l, m) curve_centre(v) curve_polar(v, i) again_point(v, l, i) "
              "roll_point(v, i, t)",
    "drawings": "look_at(steps) kinds_of(steps) weights_of(steps) freedoms_of(steps) paper_of(steps) "
                "musts_of(steps, paper)",
    "exact": "drawn_at(steps, place) undone_at(steps, place) first_made(steps, most)",
    "sayings": "look_saying(steps, saying) comes_to(steps, saying, paper) holds_at(steps, saying, place)",
    "answers": "answer_of(steps, saying)",
    "judging": "judge(steps, saying, found) always_by(paper) never_by(step, paper) fails_by(place)",
    "everything": "all_sayings(steps, words) new_sayings(steps, words)",
    "chains": "free_drawing(some) laid_in(steps, some, given) chain_of(name)",
    "texts": "shown_drawing(steps, names) read_drawing(lines) shown_saying(saying, names) read_saying(line, names)",
}
WITHOUT_FIELDS = ("NoBottom", "BadPlace", "BadSaying", "TooMany", "BadChain", "NoName", "BadName", "NoLine", "NoStep")
WITH_FIELD = {
    "BadStep": "step", "BadThing": "step", "TooFree": "step", "TooDeep": "step", "BadKnown": "step", "CantMake": "step",
    "NoText": "line",
}
TRIANGLE = [FREE, FREE, P, ("through", 0, 1), ("part", 0, 1, (1, 2)), ("round", 0, 1)]
PLACE = [(1, 2), (3, 1), (0, 1), (-2, 3)]


class Interface(unittest.TestCase):
    def test_names_and_arguments(self):
        for file, text in INTERFACE.items():
            module = importlib.import_module("everydraw." + file)
            for one in text.replace(") ", ")|").split("|"):
                name, arguments = one[:-1].split("(")
                given = inspect.signature(getattr(module, name)).parameters
                self.assertEqual(list(given), arguments.split(", "), (file, name))
                self.assertTrue(all(one.default is inspect.Parameter.empty for one in given.values()))

    def test_classes(self):
        self.assertEqual(list(inspect.signature(Desk).parameters), [])
        self.assertEqual(list(inspect.signature(Desk().tell).parameters), ["line"])
        for kind in (Always, Never, Fails):
            self.assertTrue(issubclass(kind, Answer))
            self.assertEqual(list(inspect.signature(kind.word).parameters), ["self"])


class Refusals(unittest.TestCase):
    """Point 4: each refusal's class stands straight beneath DrawError and is no other one."""

    def asked(self):
        desk = Desk()
        return [
            ("NoBottom", None, lambda: fraction_of(1, 0)), ("NoBottom", None, lambda: frac_by((1, 2), (0, 1))),
            ("NoBottom", None, lambda: divided_by([], [])),
            ("TooMany", None, lambda: look_at([O] * 25)), ("BadStep", 1, lambda: look_at([O, None])),
            ("BadThing", 1, lambda: look_at([O, ("foot", 0, 0)])), ("TooFree", 3, lambda: look_at([FREE] * 4)),
            ("TooDeep", 6, lambda: look_at([O] + [("part", k, k, (1, 2)) for k in range(6)])),
            ("BadKnown", 3, lambda: look_at([O, P, ("round", 0, 1), ("roll", 2, 0)])),
            ("BadPlace", None, lambda: drawn_at(TRIANGLE, [])), ("BadPlace", None, lambda: undone_at(TRIANGLE, [])),
            ("CantMake", 3, lambda: drawn_at(TRIANGLE, [(0, 1)] * 4)),
            ("BadSaying", None, lambda: look_saying(TRIANGLE, ("on",))),
            ("BadThing", 6, lambda: comes_to(TRIANGLE, ("on", 3, 0), [])),
            ("TooDeep", 7, lambda: answer_of([O] + [("part", k, k, (1, 2)) for k in range(5)] + [P],
                                             ("far", 5, 5, 5, 5))),
            ("BadPlace", None, lambda: holds_at(TRIANGLE, ("on", 0, 3), [])),
            ("CantMake", 3, lambda: holds_at(TRIANGLE, ("on", 0, 3), [(0, 1)] * 4)),
            ("BadSaying", None, lambda: judge(TRIANGLE, None, always_by([]))),
            ("BadSaying", None, lambda: all_sayings(TRIANGLE, ["none"])),
            ("TooMany", None, lambda: new_sayings([O] * 9, ["inline"])),
            ("BadChain", None, lambda: free_drawing((["curve"], [], 0))),
            ("BadThing", 6, lambda: laid_in(TRIANGLE, (["line"], [], 0), [0])),
            ("NoName", None, lambda: chain_of("none")),
            ("BadName", None, lambda: shown_drawing([O], ["A"])),
            ("NoText", 1, lambda: read_drawing(["a = free", "b"])),
            ("BadSaying", None, lambda: shown_saying(("on",), [])),
            ("BadName", None, lambda: shown_saying(("on", 0, 1), [])),
            ("NoText", 0, lambda: read_saying("on a", ["a"])), ("NoLine", None, lambda: desk.tell("")),
            ("NoStep", None, lambda: desk.tell("undo")), ("NoText", 0, lambda: desk.tell("a = b")),
        ]

    def test_each_class_and_its_field(self):
        seen = set()
        for name, field, ask in self.asked():
            seen.add(name)
            for _ in range(2):
                with self.assertRaises(DrawError) as caught:
                    ask()
                refusal = caught.exception
                self.assertIs(refusal.__class__, getattr(errors, name))
                self.assertEqual(refusal.__class__.__mro__[1:3], (DrawError, ValueError))
                self.assertEqual(vars(refusal), {} if field is None else {WITH_FIELD[name]: field})
        self.assertEqual(seen, set(WITHOUT_FIELDS) | set(WITH_FIELD))

    def test_a_refusal_changes_nothing(self):
        for name, _, ask in self.asked():
            before = [one() for one in questions()]
            with self.assertRaises(getattr(errors, name)):
                ask()
            self.assertEqual(shown([one() for one in questions()]), shown(before), name)


def shown(some):
    """What was told, to be compared: of answers their words and fields."""
    if isinstance(some, (list, tuple)):
        return [some.__class__, [shown(one) for one in some]]
    return [some.word(), shown(list(vars(some).items()))] if isinstance(some, Answer) else some


def questions():
    """Each function of the interface, asked of something small."""
    i, j = free_point(0, 1), free_point(2, 3)
    triangle, chain = deepcopy(TRIANGLE), (["point", "point"], [("part", 0, 1, (1, 2))], 2)
    desk = Desk()
    lines = ["a = free", "b = told 1 0", "l = through a b"]
    return [
        lambda: fraction_of(4, -6), lambda: frac_sum((1, 2), (1, 3)), lambda: poly_of([((1, 0), 2), ((1,), 3)]),
        lambda: poly_times([((1,), 1)], [((0, 1), 2)]), lambda: worth_at([((1,), 1)], [(1, 2)]),
        lambda: through_line(i, j), lambda: round_circle(i, j), lambda: as_curve(round_circle(i, j)),
        lambda: five_curve(i, j, i, j, i), lambda: curve_centre(as_curve(round_circle(i, j))),
        lambda: look_at(triangle),
        lambda: kinds_of(triangle), lambda: weights_of(triangle), lambda: freedoms_of(triangle),
        lambda: paper_of(triangle),
        lambda: musts_of(triangle, paper_of(triangle)), lambda: drawn_at(triangle, PLACE),
        lambda: undone_at(triangle, PLACE), lambda: first_made(triangle, 2),
        lambda: look_saying(triangle, ("on", 0, 3)),
        lambda: comes_to(triangle, ("inline", 0, 1, 2), paper_of(triangle)),
        lambda: holds_at(triangle, ("on", 0, 3), PLACE), lambda: answer_of(triangle, ("inline", 0, 1, 4)),
        lambda: answer_of(triangle, ("inline", 0, 1, 2)), lambda: answer_of([O, ("through", 0, 0)], ("on", 0, 1)),
        lambda: always_by(paper_of(triangle)), lambda: never_by(1, paper_of([O])), lambda: fails_by(list(PLACE)),
        lambda: judge(triangle, ("on", 0, 3), always_by(paper_of(triangle))),
        lambda: all_sayings(triangle, ["on", "far"]),
        lambda: new_sayings(triangle, ["on"]), lambda: free_drawing(chain), lambda: laid_in(triangle, chain, [0, 2]),
        lambda: chain_of("heightpoint"), lambda: shown_drawing(triangle, list("abcdef")), lambda: read_drawing(lines),
        lambda: shown_saying(("on", 0, 1), ["a", "b"]), lambda: read_saying("on a b", ["a", "b"]),
        lambda: [desk.tell(line) for line in lines + ["ask on a l", "at 0 0", "undo", "undo", "undo"]],
    ]


class TheAskersOwn(unittest.TestCase):
    """Point 2."""

    def test_the_same_asked_twice_and_in_another_order(self):
        asked = questions()
        first = [shown(ask()) for ask in asked]
        order = list(range(len(asked)))
        for seed in range(3):
            random.Random(seed).shuffle(order)
            for k in order:
                self.assertEqual(shown(asked[k]()), first[k])

    def test_what_is_told_and_then_changed(self):
        for ask in questions():
            told_first = ask()
            before = shown(told_first)
            kept = ask()
            spoil(list(vars(told_first).values()) if isinstance(told_first, Answer) else told_first)
            self.assertEqual(shown(kept), before)
            self.assertEqual(shown(ask()), before)

    def test_no_list_at_two_places(self):
        for ask in questions():
            some = ask()
            lists = lists_in(list(vars(some).values()) if isinstance(some, Answer) else some)
            self.assertEqual(len(lists), len({id(one) for one in lists}))

    def test_a_drawing_grown_behind_the_call(self):
        steps, names = [FREE, P], ["a", "b"]
        before = (paper_of(steps), answer_of(steps, ("same", 0, 1)), laid_in(steps, (["point"], [], 0), [0]),
                  shown_drawing(steps, names))
        kept = shown(before)
        steps.append(("through", 0, 1))
        names.append("l")
        self.assertEqual(shown(before), kept)
        self.assertEqual(len(paper_of(steps)), 3)


class EveryDrawingAndSaying(unittest.TestCase):
    """Point 1: just one of three, with what shows it."""

    def test_of_the_examples(self):
        chance = random.Random(11)
        for steps in DRAWINGS + [TRIANGLE]:
            for word in ENTRIES:
                saying = sayings_of(word, kinds_of(steps), chance, chance.random() < 0.5)
                if saying is None or told.is_deep(steps, saying):
                    continue
                found = answer_of(steps, saying)
                self.assertEqual(sum(isinstance(found, kind) for kind in (Always, Never, Fails)), 1)
                self.assertIs(judge(steps, saying, found), True)
                # What shows the one shows neither of the others.
                for other in self.others(steps, found):
                    self.assertIs(judge(steps, saying, other), False)

    def others(self, steps, found):
        paper = paper_of(steps)
        place = [(5, 7), (-3, 2), (11, 1), (1, 13), (2, 9), (-8, 3)][:freedoms_of(steps)]
        others = []
        if not isinstance(found, Always):
            others.append(always_by(paper))
        if not isinstance(found, Fails):
            others.append(fails_by(place))
        if not isinstance(found, Never):
            others += [never_by(k, paper[:k]) for k in range(len(steps))]
        return others

    def test_told_texts_and_numbers_agree(self):
        # The desk, the texts and the functions tell the same of one drawing.
        for steps in (ALL_WORDS[:12], CURVES[:8], SIX_FREE, SLIDES, NOWHERE[:8], [O, P, Q]):
            names = [f"n{k}" for k in range(len(steps))]
            desk = Desk()
            for line in shown_drawing(steps, names):
                desk.tell(line)
            self.assertEqual(read_drawing(shown_drawing(steps, names)), (steps, names))
            chance = random.Random(len(steps))
            for word in ENTRIES:
                saying = sayings_of(word, kinds_of(steps), chance)
                if saying is not None and not told.is_deep(steps, saying):
                    text = shown_saying(saying, names)
                    self.assertEqual(read_saying(text, names), saying)
                    self.assertEqual(desk.tell("ask " + text).split(" ")[0], answer_of(steps, saying).word())
                    self.assertEqual(desk.tell("paper " + text), "yes")

    def test_numbers_are_whole_and_never_true_or_false(self):
        for steps in DRAWINGS:
            for word in ("same", "inline", "on"):
                saying = sayings_of(word, kinds_of(steps), random.Random(2), True)
                if saying is not None and not told.is_deep(steps, saying):
                    for one in self.numbers(list(vars(answer_of(steps, saying)).values())):
                        self.assertIs(one.__class__, int)

    def numbers(self, some):
        if isinstance(some, (list, tuple)):
            return [one for part in some for one in self.numbers(part)]
        return [some]


if __name__ == "__main__":
    unittest.main()

"""Point 21: chains; and points 2 and 4, as far as they speak of them."""

import unittest
from copy import deepcopy
from itertools import permutations, product

from everydraw.answers import answer_of
from everydraw.chains import chain_of, free_drawing, laid_in
from everydraw.drawings import freedoms_of, kinds_of, look_at
from everydraw.errors import (
    BadChain, BadKnown, BadStep, BadThing, DrawError, NoName, TooDeep, TooFree, TooMany,
)
from everydraw.exact import drawn_at, undone_at
from examples import DRAWINGS, FREE, O, P, Q
from plain import check_own

# Of each name what is given and the kind of its thing.
NAMED = {
    "middle": (2, "point"), "height": (3, "line"), "halfline": (2, "line"), "roundmiddle": (3, "point"),
    "weightpoint": (3, "point"), "heightpoint": (3, "point"), "nineround": (3, "circle"), "fourth": (3, "point"),
}
T = ("told", (7, 2), (-1, 3))
THINGS = [O, P, Q, T, ("through", 0, 3), ("through", 1, 2), ("round", 0, 1), ("round", 3, 2), FREE]
POINTS, LINES, CIRCLES = (0, 1, 2, 3, 8), (4, 5), (6, 7)


class Asked(unittest.TestCase):
    def refused(self, ask, refusal, step=None):
        with self.assertRaises(DrawError) as caught:
            ask()
        self.assertIs(caught.exception.__class__, refusal)
        self.assertEqual(vars(caught.exception), {} if step is None else {"step": step})

    def check_told(self, told):
        self.assertIs(told.__class__, tuple)
        self.assertEqual(len(told), 2)
        self.assertIs(told[0].__class__, list)
        self.assertIs(told[1].__class__, int)
        look_at(told[0])


class FreeDrawing(Asked):
    def given(self, kinds):
        """By hand: the steps of what is given and the numbers of the given things."""
        steps, numbers = [], []
        for kind in kinds:
            first = len(steps)
            steps += {
                "point": [FREE], "line": [FREE, FREE, ("through", first, first + 1)],
                "circle": [FREE, FREE, ("round", first, first + 1)],
            }[kind]
            numbers.append(len(steps) - 1)
        return steps, numbers

    def test_given_things_in_every_order(self):
        seen = 0
        for count in range(4):
            for kinds in product(("point", "line", "circle"), repeat=count):
                steps, numbers = self.given(kinds)
                for number in range(count):
                    some = (list(kinds), [], number)
                    if 2 * sum(step == FREE for step in steps) <= 6:
                        seen += 1
                        told = free_drawing(some)
                        self.check_told(told)
                        self.assertEqual(told, (steps, numbers[number]))
                        self.assertEqual(kinds_of(told[0])[told[1]], kinds[number])
                    else:
                        self.refused(lambda: free_drawing(some), TooFree, [
                            k for k in range(len(steps)) if sum(step == FREE for step in steps[:k + 1]) > 3][0])
        self.assertGreater(seen, 15)

    def test_told_out(self):
        self.assertEqual(free_drawing((["point"], [], 0)), ([FREE], 0))
        self.assertEqual(free_drawing((["line"], [], 0)), ([FREE, FREE, ("through", 0, 1)], 2))
        self.assertEqual(free_drawing((["circle"], [], 0)), ([FREE, FREE, ("round", 0, 1)], 2))
        self.assertEqual(
            free_drawing((["line", "point"], [("foot", 1, 0), ("mirrored", 2, 0), ("part", 3, 1, (-1, 2))], 4)),
            ([FREE, FREE, ("through", 0, 1), FREE, ("foot", 3, 2), ("mirrored", 4, 2), ("part", 5, 3, (-1, 2))], 6),
        )
        self.assertEqual(
            free_drawing((["point", "circle"], [("polar", 1, 0), ("centre", 1), ("through", 3, 0)], 3)),
            ([FREE, FREE, FREE, ("round", 1, 2), ("polar", 3, 0), ("centre", 3), ("through", 5, 0)], 5),
        )

    def test_without_anything_given(self):
        steps = [O, P, ("through", 0, 1), FREE, ("foot", 3, 2)]
        for number in range(5):
            self.assertEqual(free_drawing(([], steps, number)), (steps, number))

    def test_steps_that_bring_free_numbers(self):
        self.assertEqual(free_drawing((["point", "point"], [("slide", 0, 1)], 2)),
                         ([FREE, FREE, ("slide", 0, 1)], 2))
        self.assertEqual(free_drawing((["circle"], [FREE, ("part", 1, 1, (1, 2))], 2)),
                         ([FREE, FREE, ("round", 0, 1), FREE, ("part", 3, 3, (1, 2))], 4))
        self.refused(lambda: free_drawing((["circle"], [FREE, FREE], 0)), TooFree, 4)

    def test_as_look_at_refuses(self):
        for some, refusal, step in (
            ((["point"], [("nothing",)], 0), BadStep, 1), ((["line"], [("told", (2, 4), (0, 1))], 1), BadStep, 3),
            ((["line", "point"], [None], 0), BadStep, 4), ((["point"], [()], 0), BadStep, 1),
            ((["point"], [("foot", 0, True)], 0), BadStep, 1), ((["point"], [("part", 0, 0)], 0), BadStep, 1),
            ((["line"], [("through", 0, 0)], 0), BadThing, 3),
            ((["circle", "point"], [("foot", 1, 0)], 0), BadThing, 4),
            ((["point"] * 4, [], 0), TooFree, 3), ((["point", "line", "line"], [], 0), TooFree, 4),
            ((["point"], [("part", k, k, (1, 2)) for k in range(23)], 0), None, None),
            ((["point"], [("part", k, k, (1, 2)) for k in range(24)], 0), TooMany, None),
            (([], [O] + [("part", k, k, (1, 2)) for k in range(6)], 0), TooDeep, 6),
            ((["circle", "point"], [("touch", 0, 1)], 0), BadKnown, 4), ((["point"] * 25, [], 0), TooMany, None),
            ((["line"] * 9, [], 0), TooMany, None),
        ):
            if refusal is None:
                self.assertEqual(len(free_drawing(some)[0]), 24)
            else:
                before = deepcopy(some)
                self.refused(lambda: free_drawing(some), refusal, step)
                self.assertEqual(some, before)


class LaidIn(Asked):
    def test_the_steps_stand_behind_the_drawing(self):
        some = (["point", "line"], [("foot", 0, 1), ("through", 2, 0)], 3)
        for point, line in product(POINTS, LINES):
            told = laid_in(THINGS, some, [point, line])
            self.check_told(told)
            self.assertEqual(told, (THINGS + [("foot", point, line), ("through", 9, point)], 10))

    def test_given_things_several_times(self):
        some = (["point", "point", "point"], [("part", 0, 1, (1, 2)), ("round", 2, 3)], 4)
        for given in product(POINTS[:4], repeat=3):
            told = laid_in(THINGS, some, list(given))
            self.assertEqual(told, (THINGS + [("part", given[0], given[1], (1, 2)), ("round", given[2], 9)], 10))

    def test_the_number_told(self):
        for order in permutations(((0, "point"), (5, "line"), (7, "circle"))):
            given, kinds = [one for one, _ in order], [kind for _, kind in order]
            for number in range(3):
                self.assertEqual(laid_in(THINGS, (kinds, [], number), given), (THINGS, given[number]))
            self.assertEqual(laid_in(THINGS, (kinds, [P, Q], 3), given), (THINGS + [P, Q], 9))
            self.assertEqual(laid_in(THINGS, (kinds, [P, Q], 4), given), (THINGS + [P, Q], 10))
        self.assertEqual(laid_in([], ([], [O], 0), []), ([O], 0))
        self.assertEqual(laid_in([P], ([], [O, ("through", 0, 0)], 1), []), ([P, O, ("through", 1, 1)], 2))

    def test_bad_thing(self):
        some = (["point", "line", "circle"], [("foot", 0, 1)], 3)
        right = [0, 4, 6]
        self.assertEqual(laid_in(THINGS, some, right), (THINGS + [("foot", 0, 4)], 9))
        for given in ([], [0], [0, 4], [0, 4, 6, 6], [4, 0, 6], [0, 6, 4]):
            self.refused(lambda: laid_in(THINGS, some, given), BadThing, 9)
        for place, fitting in enumerate((POINTS, LINES, CIRCLES)):
            for number in list(range(-3, 12)) + [-9, 24, 10**29, True, False, None, "0", (0,), [0]]:
                given = right[:place] + [number] + right[place + 1:]
                if number.__class__ is int and number in fitting:
                    self.assertEqual(len(laid_in(THINGS, some, given)[0]), 10)
                else:
                    self.refused(lambda: laid_in(THINGS, some, given), BadThing, 9)
        self.refused(lambda: laid_in([], (["point"], [], 0), [0]), BadThing, 0)
        self.refused(lambda: laid_in([], ([], [O], 0), [0]), BadThing, 0)
        curve = [O, P, Q, T, FREE, ("five", 0, 1, 2, 3, 4)]
        for kind in ("point", "line", "circle"):
            self.refused(lambda: laid_in(curve, ([kind], [], 0), [5]), BadThing, 6)

    def test_as_look_at_refuses_what_is_made(self):
        for steps, some, given, refusal, step in (
            (THINGS, (["point"], [("nothing",)], 0), [0], BadStep, 9),
            (THINGS, (["point"], [None], 0), [1], BadStep, 9),
            (THINGS, (["point"], [O, ("foot", 0, 1)], 0), [1], BadThing, 10),
            (THINGS, (["line"], [("through", 0, 0)], 0), [4], BadThing, 9),
            (THINGS, ([], [FREE, FREE, FREE], 0), [], TooFree, 11), (THINGS, ([], [O] * 16, 0), [], TooMany, None),
            ([O] * 24, (["point"], [("part", 0, 0, (1, 2))], 0), [23], TooMany, None),
            (THINGS, (["point"], [("part", k, k, (1, 2)) for k in range(6)], 0), [0], TooDeep, 14),
            (THINGS, (["circle", "point"], [("touch", 0, 1)], 0), [6, 3], BadKnown, 9),
        ):
            before = deepcopy((steps, some, given))
            self.refused(lambda: laid_in(steps, some, given), refusal, step)
            self.assertEqual((steps, some, given), before)
        # Where the point lies on the circle touch is not refused.
        self.assertEqual(laid_in(THINGS, (["circle", "point"], [("touch", 0, 1)], 2), [6, 1])[1], 9)
        self.assertEqual(len(laid_in([O] * 24, (["point"], [], 0), [23])[0]), 24)

    def test_the_drawing_ahead_of_all_else(self):
        for steps, refusal, step in (
            ([O] * 25, TooMany, None), ([O, None], BadStep, 1), ([O, ("through", 0, 1)], BadThing, 1),
        ):
            for some in ((["nothing"], [], 0), (["point"], [], 5), (["point"], [("part", 0, 9, (1, 2))], 0)):
                self.refused(lambda: laid_in(steps, some, [9]), refusal, step)

    def test_the_order(self):
        # BadChain ahead of BadThing, BadThing ahead of what look_at refuses.
        self.refused(lambda: laid_in(THINGS, (["point"], [], 1), [99]), BadChain)
        self.refused(lambda: laid_in(THINGS, (["point"], [None], 0), [99]), BadThing, 9)
        self.refused(lambda: laid_in(THINGS, (["point"], [None, ("part", 9, 9, (1, 2))], 0), [99]), BadChain)


class BadChains(Asked):
    def bad(self, some, given):
        before = deepcopy(some)
        self.refused(lambda: free_drawing(some), BadChain)
        self.refused(lambda: laid_in(THINGS, some, given), BadChain)
        self.assertEqual(some, before)

    def test_kinds_that_are_none(self):
        for kind in ("curve", "", "Point", "points", "bent", "free", None, 0, True, ("point",), ["point"]):
            for kinds in ([kind], ["point", kind], [kind, "line"]):
                for number in (0, 1, 9):
                    self.bad((kinds, [O, O], number), [0] * len(kinds))

    def test_a_number_that_is_none_or_names_nothing(self):
        for kinds, steps in ((["point"], []), (["line", "point"], [("foot", 1, 0)]), ([], [O, P]), ([], [])):
            count = len(kinds) + len(steps)
            for number in (-1, -2, count, count + 1, 10**29, True, False, None, "0", (0,), [0]):
                self.bad((kinds, steps, number), [0] * len(kinds))

    def test_a_step_that_names_what_is_neither_given_nor_earlier(self):
        for k in range(3):
            for number in (-1, -2, 2 + k, 3 + k, 9, 10**29):
                steps = [("part", 0, 1, (1, 2))] * k
                for wrong in (("part", 0, number, (1, 2)), ("part", number, 1, (1, 2)), ("through", number, 0),
                              ("round3", 0, 1, number)):
                    self.bad((["point", "point"], steps + [wrong], 0), [0, 1])
                    self.bad((["point", "point"], steps + [wrong, O, P, Q], 0), [0, 1])
        # Things of the drawing that aren't given have no numbers in the chain.
        self.bad((["point"], [("through", 0, 1)], 0), [0])
        self.bad(([], [("through", 0, 1)], 0), [])

    def test_ahead_of_what_look_at_refuses(self):
        self.bad((["point"] * 4, [None], 5), [0] * 4)
        self.bad((["point"] * 25, [("through", 0, 25)], 0), [0] * 25)
        self.bad((["point"], [("nothing",), ("through", 0, 7)], 0), [0])


class ChainOf(Asked):
    def test_what_is_given_and_what_it_is(self):
        for name, (count, kind) in NAMED.items():
            some = chain_of(name)
            self.assertIs(some.__class__, tuple)
            self.assertEqual(len(some), 3)
            self.assertIs(some[0].__class__, list)
            self.assertIs(some[1].__class__, list)
            self.assertEqual(some[0], ["point"] * count)
            self.assertLessEqual(len(some[1]), 10)
            steps, number = free_drawing(some)
            self.assertEqual(kinds_of(steps)[number], kind)
            self.assertEqual(freedoms_of(steps), 2 * count)
            self.assertEqual(steps[:count], [FREE] * count)

    def known(self, name, behind, sayings):
        """What is known of the chain's thing, x standing for its number and y for that of the first step behind."""
        steps, x = free_drawing(chain_of(name))
        y = len(steps)
        steps = steps + behind(x, y)
        for saying in sayings(x, y):
            self.assertEqual(answer_of(steps, saying).word(), "always", (name, saying))

    def test_middle(self):
        self.known("middle", lambda x, y: [], lambda x, y: [("inline", 0, 1, x), ("far", 0, x, x, 1)])

    def test_height(self):
        self.known("height", lambda x, y: [("through", 1, 2)], lambda x, y: [("on", 0, x), ("asquare", x, y)])

    def test_halfline(self):
        self.known(
            "halfline", lambda x, y: [("through", 0, 1), ("part", 0, 1, (1, 2))],
            lambda x, y: [("asquare", x, y), ("on", y + 1, x)],
        )
        self.known(
            "halfline", lambda x, y: [("mirrored", 0, x)], lambda x, y: [("same", y, 1), ("inline", 0, 1, y)],
        )

    def test_roundmiddle(self):
        self.known(
            "roundmiddle", lambda x, y: [("part", 0, 1, (1, 2)), ("part", 1, 2, (1, 2)), ("through", 0, 1),
                                         ("through", 1, 2), ("square", y, y + 2), ("square", y + 1, y + 3)],
            lambda x, y: [("on", x, y + 4), ("on", x, y + 5)],
        )
        self.known("roundmiddle", lambda x, y: [("round3", 2, 1, 0), ("centre", y)], lambda x, y: [("same", x, y + 1)])

    def test_weightpoint(self):
        self.known(
            "weightpoint", lambda x, y: [("part", 1, 2, (1, 2)), ("part", 0, 2, (1, 2)), ("part", 0, 1, (1, 2))],
            lambda x, y: [("inline", 0, x, y), ("inline", 1, x, y + 1), ("inline", 2, x, y + 2)],
        )

    def test_heightpoint(self):
        self.known(
            "heightpoint", lambda x, y: [("through", 0, x), ("through", 1, 2), ("through", 2, 0), ("through", 0, 1)],
            lambda x, y: [("asquare", y, y + 1), ("inline", 0, 1, 1)],
        )
        self.known(
            "heightpoint", lambda x, y: [("through", 1, 2), ("square", 0, y), ("through", 0, 2), ("square", 1, y + 2),
                                         ("through", 0, 1), ("square", 2, y + 4)],
            lambda x, y: [("on", x, y + 1), ("on", x, y + 3), ("on", x, y + 5)],
        )

    def test_nineround(self):
        self.known(
            "nineround", lambda x, y: [("part", 1, 2, (1, 2)), ("part", 2, 0, (1, 2)), ("part", 0, 1, (1, 2))],
            lambda x, y: [("on", y, x), ("on", y + 1, x), ("on", y + 2, x)],
        )
        # Of told points its other six points lie on it, too.
        steps, x = laid_in([O, ("told", (4, 1), (0, 1)), ("told", (1, 1), (3, 1))], chain_of("nineround"), [0, 1, 2])
        steps, h = laid_in(steps, chain_of("heightpoint"), [0, 1, 2])
        steps += [("through", 0, 1), ("foot", 2, len(steps)), ("part", h, 1, (1, 2))]
        self.assertEqual(answer_of(steps, ("on", len(steps) - 2, x)).word(), "always")
        self.assertEqual(answer_of(steps, ("on", len(steps) - 1, x)).word(), "always")
        self.assertEqual(answer_of(steps, ("on", h, x)).word(), "fails")

    def test_fourth(self):
        self.known(
            "fourth", lambda x, y: [("part", 0, x, (1, 2)), ("part", 1, 2, (1, 2))],
            lambda x, y: [("same", y, y + 1), ("far", 0, 1, 2, x), ("far", 0, 2, 1, x)],
        )
        steps, x = laid_in([O, P, T], chain_of("fourth"), [0, 1, 2])
        self.assertEqual(drawn_at(steps, [])[x], ("point", (9, 2), (-1, 3)))

    def test_laid_in_over_told_points(self):
        for name, (count, kind) in NAMED.items():
            for given in permutations((0, 1, 2, 3), count):
                steps, number = laid_in([O, P, Q, T], chain_of(name), list(given))
                self.assertEqual(kinds_of(steps)[number], kind)
                self.assertEqual(freedoms_of(steps), 0)
                self.assertIsNone(undone_at(steps, []))

    def test_told_points_of_six_figures(self):
        steps = [("told", (999999, 999998), (-1, 999997)), ("told", (-999998, 999999), (7, 999983)), P]
        for name, (count, _) in NAMED.items():
            self.assertIsNone(undone_at(laid_in(steps, chain_of(name), [0, 1, 2][:count])[0], []))

    def test_made_wherever_the_given_points_are_unlike_and_not_on_one_line(self):
        places = [(0, 0), (1, 0), (0, 1), (1, 1), (2, 1), (-1, 3)]
        for name, (count, _) in NAMED.items():
            steps, _ = free_drawing(chain_of(name))
            for points in permutations(places, count):
                if count == 3:
                    (a, b), (c, d), (e, f) = points
                    if (c - a) * (f - b) == (d - b) * (e - a):
                        continue
                self.assertIsNone(undone_at(steps, [(one, 1) for point in points for one in point]), name)

    def test_drawn(self):
        steps = [O, ("told", (6, 1), (0, 1)), ("told", (2, 1), (4, 1))]
        for name, given, due in (
            ("middle", [1, 2], ("point", (4, 1), (2, 1))), ("height", [2, 0, 1], ("line", 1, 0, -2)),
            ("halfline", [0, 1], ("line", 1, 0, -3)), ("roundmiddle", [0, 1, 2], ("point", (3, 1), (1, 1))),
            ("weightpoint", [2, 1, 0], ("point", (8, 3), (4, 3))),
            ("heightpoint", [1, 0, 2], ("point", (2, 1), (2, 1))),
            ("nineround", [0, 1, 2], ("circle", (5, 2), (3, 2), (5, 2))),
            ("fourth", [0, 1, 2], ("point", (8, 1), (4, 1))),
            ("fourth", [1, 2, 0], ("point", (-4, 1), (4, 1))), ("height", [0, 1, 2], ("line", 1, -1, 0)),
        ):
            made, number = laid_in(steps, chain_of(name), given)
            self.assertEqual(drawn_at(made, [])[number], due, name)

    def test_no_name(self):
        for name in ("", "Middle", "middle ", "centre", "point", "round", "heights", "nine", "weight point", "a" * 300):
            self.refused(lambda: chain_of(name), NoName)

    def test_chains_in_chains(self):
        # The weight point, the round's middle and the height point lie on one line.
        steps = [O, FREE, ("told", (1, 1), (0, 1))]
        numbers = []
        for name in ("weightpoint", "roundmiddle", "heightpoint"):
            steps, number = laid_in(steps, chain_of(name), [0, 1, 2])
            numbers.append(number)
        self.assertEqual(answer_of(steps, ("inline",) + tuple(numbers)).word(), "always")


class TheAskersOwn(Asked):
    CHAINS = [
        (["point", "line"], [("foot", 0, 1), ("part", 0, 2, (1, 3))], 3), (["circle"], [("centre", 0)], 0),
        ([], [O, P, ("through", 0, 1)], 2),
    ]

    def test_what_is_handed_in_and_what_is_told(self):
        for some in self.CHAINS:
            check_own(self, free_drawing, [some])
        check_own(self, laid_in, [THINGS, self.CHAINS[0], [3, 4]])
        check_own(self, laid_in, [THINGS, self.CHAINS[1], [6]])
        check_own(self, laid_in, [THINGS, self.CHAINS[2], []])
        for name in NAMED:
            check_own(self, chain_of, [name])
        for steps in DRAWINGS:
            if len(steps) > 1:
                check_own(self, laid_in, [steps, (["point"], [], 0), [0]])

    def test_behind_a_refusal(self):
        def ask():
            return (free_drawing(self.CHAINS[0]), laid_in(THINGS, self.CHAINS[0], [3, 4]), chain_of("height"))

        before = ask()
        self.refused(lambda: free_drawing((["curve"], [], 0)), BadChain)
        self.refused(lambda: laid_in(THINGS, self.CHAINS[0], [4, 3]), BadThing, 9)
        self.refused(lambda: chain_of("none"), NoName)
        self.assertEqual(ask(), before)


if __name__ == "__main__":
    unittest.main()

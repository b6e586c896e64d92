"""Point 18: the answer; and points 1, 2 and 4, as far as they speak of it."""

import random
import unittest
from copy import deepcopy
from unittest import mock

import told
from everydraw import answers
from everydraw.answers import Always, Answer, Fails, Never, answer_of
from everydraw.drawings import freedoms_of, kinds_of, musts_of, paper_of
from everydraw.errors import BadSaying, BadThing, DrawError, TooDeep, TooMany
from everydraw.exact import drawn_at, first_made, undone_at
from everydraw.judging import judge
from everydraw.sayings import comes_to, holds_at
from examples import ALL_WORDS, CURVES, DRAWINGS, FREE, NOWHERE, O, P, PARTS, Q, SIX_FREE, SLIDES
from plain import lists_in, spoil
from told import ENTRIES, means, sayings_of

A3 = [FREE, FREE, FREE]
A1 = [FREE, O, ("told", (2, 1), (1, 3))]
T3 = [O, ("told", (7, 2), (0, 1)), ("told", (5, 3), (4, 1))]
SIDES = [("through", 1, 2), ("through", 0, 2), ("through", 0, 1)]


def fields(found):
    """What an answer is, to be compared."""
    return found.word(), {name: deepcopy(worth) for name, worth in vars(found).items()}


class Asked(unittest.TestCase):
    def ask(self, steps, saying):
        """The answer, looked at: its class, its word and its fields, and that the judge lets it by."""
        before = deepcopy((steps, saying))
        found = answer_of(steps, saying)
        self.assertEqual((steps, saying), before)
        self.assertIsInstance(found, Answer)
        self.assertIs(judge(steps, saying, found), True)
        kind = found.__class__
        self.assertIn(kind, (Always, Never, Fails))
        self.assertEqual(found.word(), {Always: "always", Never: "never", Fails: "fails"}[kind])
        if kind is Always:
            self.assertEqual(set(vars(found)), {"paper"})
            self.assertEqual(len(found.paper), len(steps))
            self.assertTrue(all(some == [] for some in comes_to(steps, saying, found.paper)))
            self.assertFalse(any(musts and not any(musts) for musts in musts_of(steps, found.paper)))
        elif kind is Never:
            self.assertEqual(set(vars(found)), {"step", "paper"})
            self.assertIs(found.step.__class__, int)
            self.assertEqual(len(found.paper), found.step)
            musts = musts_of(steps, paper_of(steps))
            self.assertEqual([k for k, some in enumerate(musts) if some and not any(some)][0], found.step)
        else:
            self.assertEqual(set(vars(found)), {"place"})
            self.check_place(steps, saying, found.place)
        return found

    def check_place(self, steps, saying, place):
        self.assertIs(place.__class__, list)
        self.assertEqual(len(place), freedoms_of(steps))
        for one in place:
            self.assertTrue(all(abs(number) < 10**30 for number in one))
        self.assertIsNone(undone_at(steps, place))
        self.assertFalse(means(saying, drawn_at(steps, place)))
        self.assertIs(holds_at(steps, saying, place), False)

    def always(self, steps, saying):
        self.assertEqual(self.ask(steps, saying).word(), "always", (steps, saying))

    def fails(self, steps, saying):
        self.assertEqual(self.ask(steps, saying).word(), "fails", (steps, saying))

    def never(self, steps, saying, step):
        found = self.ask(steps, saying)
        self.assertEqual((found.word(), found.step), ("never", step), (steps, saying))


class Classes(unittest.TestCase):
    def test_all_stand_beneath_answer(self):
        for kind in (Always, Never, Fails):
            self.assertEqual(kind.__bases__, (Answer,))
        self.assertTrue(callable(Answer.word))


class AlwaysTheorems(Asked):
    def both(self, steps, behind, saying, free=A3):
        """Over free points and over told ones: the first three of the steps are those."""
        for three in (free, T3):
            self.always(three + steps + behind, saying)

    def test_heights_meet_in_one_point(self):
        heights = SIDES + [("square", 0, 3), ("square", 1, 4), ("square", 2, 5)]
        self.both(heights, [], ("one", 6, 7, 8))
        self.both(heights, [("meet", 6, 7)], ("on", 9, 8))

    def test_lines_to_the_middles_meet_in_one_point(self):
        middles = [("part", 1, 2, (1, 2)), ("part", 0, 2, (1, 2)), ("part", 0, 1, (1, 2))]
        lines = [("through", 0, 3), ("through", 1, 4), ("through", 2, 5)]
        self.both(middles, lines, ("one", 6, 7, 8))

    def test_the_middles_circle_goes_through_the_feet(self):
        middles = [("part", 1, 2, (1, 2)), ("part", 0, 2, (1, 2)), ("part", 0, 1, (1, 2))]
        self.both(middles, [("round3", 3, 4, 5), ("through", 1, 2), ("foot", 0, 7)], ("on", 8, 6))
        self.both(middles, [("through", 0, 2), ("foot", 1, 6)], ("ring", 3, 4, 5, 7))

    def test_the_four_points_of_a_rectangle_on_one_circle(self):
        # Points 0 and 1, the foot of another one on the line through 1 that is square to their line, and the fourth.
        for three in ([O, ("told", (-2, 3), (1, 7)), FREE], [O, FREE, P], [O, Q, ("told", (-2, 3), (1, 7))]):
            steps = three[:2] + [("through", 0, 1), ("square", 1, 2), three[2], ("foot", 4, 3), ("part", 0, 5, (1, 2)),
                                 ("part", 1, 6, (2, 1))]
            self.always(steps, ("ring", 0, 1, 5, 7))
            self.always(steps, ("far", 0, 5, 1, 7))
            self.fails(steps, ("far", 0, 1, 1, 5))

    def test_the_middle_of_the_round(self):
        self.both([("round3", 0, 1, 2), ("centre", 3)], [], ("far", 4, 0, 4, 1), A1)
        self.both([("round3", 0, 1, 2), ("centre", 3)], [("part", 1, 2, (1, 2)), ("through", 4, 5), ("through", 1, 2)],
                  ("asquare", 6, 7))
        # The angle at the middle is twice that at the circle: the angle of half of it is the same.
        self.both([("round3", 0, 1, 2), ("centre", 3), ("part", 1, 2, (1, 2))], [], ("angles", 1, 0, 2, 1, 4, 5), A1)

    def test_simsons_line(self):
        steps = T3 + [("round3", 0, 1, 2), ("roll", 3, 0)] + SIDES + [("foot", 4, 5), ("foot", 4, 6), ("foot", 4, 7)]
        self.always(steps, ("inline", 8, 9, 10))

    def test_square_angles_and_polars(self):
        # The angle over a width is a square one.
        self.always([
            FREE, FREE, ("round", 0, 1), ("part", 1, 0, (2, 1)), ("roll", 2, 1), ("through", 4, 1), ("through", 4, 3),
        ], ("asquare", 5, 6))
        # The polars of the points of a line go through one point.
        steps = [FREE, O, P, ("round", 1, 2), Q, ("part", 0, 4, (1, 3))] + [("polar", 3, k) for k in (0, 4, 5)]
        self.always(steps, ("one", 6, 7, 8))

    def test_axes_of_three_circles_meet(self):
        steps = [FREE, O, P, Q, ("round", 0, 1), ("round", 2, 0), ("round", 3, 0), ("axis", 4, 5), ("axis", 5, 6),
                 ("axis", 4, 6)]
        self.always(steps, ("one", 7, 8, 9))

    def test_evenpair(self):
        self.always([FREE, FREE, ("part", 0, 1, (1, 3)), ("part", 0, 1, (-1, 1))], ("evenpair", 0, 1, 2, 3))
        self.fails([FREE, FREE, ("part", 0, 1, (1, 3)), ("part", 0, 1, (-1, 2))], ("evenpair", 0, 1, 2, 3))
        self.always([FREE, FREE, ("slide", 0, 1)], ("inline", 0, 1, 2))


class AlwaysByTheMaking(Asked):
    def test_of_each_step(self):
        three = [FREE, O, P]
        line = three + [("through", 0, 1)]
        two = three + [("round", 0, 1), ("round", 2, 0)]
        five = [FREE, O, P, Q, ("told", (2, 1), (3, 1)), ("five", 0, 1, 2, 3, 4)]
        for steps, sayings in (
            (three + [("slide", 0, 1)], [("inline", 0, 1, 3)]),
            (three + [("part", 0, 1, (2, 3))], [("inline", 0, 3, 1)]),
            (three + [("part", 0, 1, (1, 2))], [("far", 0, 3, 3, 1), ("far", 3, 0, 1, 3)]),
            (line, [("on", 0, 3), ("on", 1, 3)]),
            (line + [("through", 2, 0), ("meet", 3, 4)], [("on", 5, 3), ("on", 5, 4), ("same", 5, 0)]),
            (line + [("side", 2, 3)], [("aside", 3, 4), ("on", 2, 4)]),
            (line + [("square", 2, 3)], [("asquare", 3, 4), ("on", 2, 4)]),
            (line + [("foot", 2, 3), ("square", 2, 3)], [("on", 4, 3), ("on", 4, 5)]),
            (line + [("mirrored", 2, 3)], [("far", 2, 0, 4, 0), ("far", 2, 1, 4, 1)]),
            (line + [("round", 0, 2), ("mirroredround", 4, 3)], [("evenround", 4, 5), ("sameline", 3, 3)]),
            (line + [("round", 2, 0), ("mirroredround", 4, 3)], [("on", 0, 5), ("evenround", 5, 4)]),
            (two, [("on", 1, 3), ("on", 0, 4)]),
            (two + [("centre", 3)], [("same", 5, 0), ("far", 5, 1, 0, 1)]),
            (two + [("axis", 3, 4), ("through", 0, 2)], [("asquare", 5, 6)]),
            (two + [("polar", 3, 2), ("through", 0, 2)], [("asquare", 5, 6)]),
            (two + [("touch", 3, 1)], [("touches", 5, 3), ("on", 1, 5)]),
            (two + [("through", 1, 2), ("again", 3, 5, 1)], [("on", 6, 3), ("on", 6, 5), ("far", 0, 1, 0, 6)]),
            (two + [("roll", 3, 1)], [("on", 5, 3), ("far", 0, 1, 0, 5)]),
            (three + [("round3", 0, 1, 2)], [("on", 0, 3), ("on", 1, 3), ("on", 2, 3)]),
            (five, [("on", k, 5) for k in range(5)]),
            (five + [("roll", 5, 2)], [("on", 6, 5)]),
            (five + [("through", 2, 4), ("again", 5, 6, 2)], [("same", 7, 4), ("on", 7, 5)]),
            (five + [("centre", 5), ("part", 1, 6, (2, 1))], [("on", 7, 5)]),
        ):
            for saying in sayings:
                self.always(steps, saying)

    def test_of_sayings_that_name_things_twice(self):
        steps = [FREE, FREE, FREE, ("through", 0, 1), ("through", 1, 2), ("round", 0, 1), ("round", 2, 1)]
        for saying in (
            ("inline", 0, 0, 1), ("one", 3, 3, 4), ("aside", 3, 3), ("same", 2, 2), ("sameline", 4, 4),
            ("far", 0, 1, 1, 0), ("areas", 0, 1, 2, 1, 2, 0), ("ring", 0, 1, 2, 1), ("angles", 0, 1, 2, 0, 1, 2),
            ("angles", 0, 0, 1, 0, 1, 2), ("evenpair", 0, 0, 0, 1), ("touching", 5, 5), ("evenround", 5, 5),
        ):
            self.always(steps, saying)
        for saying in (
            ("asquare", 3, 3), ("far", 0, 1, 0, 2), ("far", 0, 0, 0, 1), ("areas", 0, 1, 2, 2, 1, 0),
            ("angles", 0, 1, 2, 2, 1, 0), ("squareround", 5, 5), ("evenpair", 0, 1, 0, 2), ("evenround", 5, 6),
        ):
            self.fails(steps, saying)


class NeverMade(Asked):
    def test_the_first_step_made_nowhere(self):
        for steps, step in (
            ([O, ("through", 0, 0)], 1),
            ([FREE, ("through", 0, 0), ("round", 0, 0)], 1),
            ([FREE, ("round", 0, 0), ("through", 0, 0)], 1),
            ([FREE, O, ("through", 0, 1), ("meet", 2, 2)], 3),
            ([FREE, FREE, ("part", 0, 1, (1, 2)), ("round3", 0, 1, 2), ("through", 0, 0)], 3),
            ([FREE, O, ("round", 0, 1), ("axis", 2, 2)], 3),
            ([FREE, O, ("round", 0, 1), ("polar", 2, 0)], 3),
            ([FREE, O, ("round", 0, 1), ("part", 1, 1, (1, 2)), ("through", 3, 1)], 4),
            ([FREE, O, P, ("through", 1, 2), ("foot", 0, 3), ("foot", 4, 3), ("through", 4, 5)], 6),
            ([FREE, O, P, ("part", 1, 2, (1, 3)), ("slide", 1, 2), ("five", 0, 1, 2, 3, 4)], 5),
        ):
            for saying in (("same", 0, 0), ("inline", 0, 0, 0), ("far", 0, 0, 0, 0)):
                # Also where the saying would hold.
                self.never(steps, saying, step)
            for behind in ([O], [P, ("through", 0, len(steps))]):
                self.never(steps + behind, ("same", 0, len(steps)), step)

    def test_the_paper_is_one_of_the_steps_before(self):
        for steps in (NOWHERE, [FREE, O, ("through", 0, 1), ("foot", 1, 2), ("meet", 2, 2)]):
            found = self.ask(steps, ("same", 0, 1))
            things = paper_of(steps[:found.step])
            self.assertEqual(len(found.paper), len(things))
            for (share, thing), (_, due) in zip(found.paper, things):
                self.assertNotEqual(share, [])
                for some, other in zip(thing, due):
                    self.assertEqual(bool(some), bool(other))

    def test_a_step_made_somewhere_alone(self):
        # On a line that a slide can leave only at one place: made nowhere but there, so not never.
        steps = [O, P, ("slide", 0, 1), ("through", 0, 2)]
        self.fails(steps, ("same", 2, 1))
        self.always(steps, ("on", 1, 3))

    def test_steps_made_somewhere_each(self):
        # A slide that is unlike many told points.
        told_points = [("told", (k, 1), (0, 1)) for k in range(-7, 4)]
        steps = [O, P, ("slide", 0, 1)] + told_points[:10] + [("through", 2, k) for k in range(3, 13)]
        self.always(steps, ("sameline", 13, 14))
        self.fails(steps, ("same", 2, 0))
        self.fails(steps, ("same", 2, 1))

    def test_without_free_numbers(self):
        self.never([O, P, ("through", 0, 0)], ("same", 0, 1), 2)
        self.never([O, P, ("through", 0, 1), ("meet", 2, 2)], ("on", 0, 2), 3)
        self.always([O, P, ("through", 0, 1)], ("on", 1, 2))
        self.fails([O, P, Q, ("through", 0, 1)], ("on", 2, 3))
        self.assertEqual(answer_of([O, P], ("same", 0, 1)).place, [])
        self.assertEqual(answer_of([O, O], ("same", 0, 1)).word(), "always")


class FailsSomewhere(Asked):
    def test_each_word(self):
        steps = [FREE, FREE, FREE, ("through", 0, 1), ("through", 1, 2), ("through", 2, 0), ("round", 0, 1),
                 ("round", 1, 2), O, P, Q]
        for saying in (
            ("inline", 0, 1, 2), ("one", 3, 4, 5), ("on", 0, 4), ("on", 0, 7), ("aside", 3, 4), ("asquare", 3, 4),
            ("same", 0, 1), ("sameline", 3, 4), ("far", 0, 1, 1, 2), ("areas", 0, 1, 2, 8, 9, 10), ("ring", 0, 1, 2, 8),
            ("angles", 0, 1, 2, 8, 9, 10), ("evenpair", 0, 1, 2, 8), ("touches", 5, 6), ("touching", 6, 7),
            ("squareround", 6, 7), ("evenround", 6, 7),
        ):
            self.fails(steps, saying)

    def products(self, roots):
        """A drawing with one free number t, and the number of a point (0, y) whose y is 0 just where t is a root.

        Things 3 and 4 are the level and the upright line, 5 is the line through (1, 0) and (0, 1): side by side to it
        a place on the one is laid off on the other. Where s is laid off upright and y is level, the line through y
        that is side by side to that of (1, 0) and (0, s) meets the upright one at y s.
        """
        steps = [O, P, Q, ("through", 0, 1), ("through", 0, 2), ("through", 1, 2), ("slide", 0, 1)]
        point = None
        for root in roots:
            # The middle of (t, 0) and (- root, 0), laid off on the upright line: s is half of t - root.
            steps += [("told", (-root, 1), (0, 1)), ("part", 6, len(steps), (1, 2))]
            steps += [("side", len(steps) - 1, 5), ("meet", len(steps), 4)]
            if point is not None:
                way = len(steps)
                steps += [("through", 1, way - 1), ("side", point, 5), ("meet", way + 1, 3), ("side", way + 2, way)]
                steps += [("meet", way + 3, 4)]
            point = len(steps) - 1
        return steps, point

    def test_where_it_holds_at_the_places_that_are_tried(self):
        tried = [numbers[0] for numbers in answers.PROBES]
        for roots in (tried[:2], tried[1:], [tried[2], tried[0]], [0, 1], [5, 5]):
            steps, point = self.products(roots)
            # A line that is made nowhere but where t is unlike the one that is left.
            other = [number for number in tried if number not in roots][0]
            steps += [("told", (other, 1), (0, 1)), ("through", 6, len(steps))]
            self.assertLessEqual(len(steps), 24)
            for t in [-8, -7, 0, 1, 3, 5, 11] + tried:
                place = [(t, 1)]
                if undone_at(steps, place) is None:
                    self.assertIs(holds_at(steps, ("same", point, 0), place), t in roots)
                    self.assertNotEqual(t, other)
            self.fails(steps, ("same", point, 0))
            self.fails(steps, ("on", point, 3))
            self.always(steps, ("on", point, 4))

    def test_where_it_holds_at_all_small_places_but_few(self):
        # One free point alone: the circles' worth is 0 at each whole place from -1 to 1 but the corners.
        steps = [FREE, O, P, Q, ("told", (-1, 1), (0, 1)), ("told", (0, 1), (-1, 1)), ("through", 1, 2),
                 ("through", 1, 3), ("foot", 0, 6), ("foot", 0, 7)]
        self.fails(steps, ("inline", 0, 8, 9))
        held = [place for place in ([(x, 1), (y, 1)] for x in (-1, 0, 1) for y in (-1, 0, 1))
                if holds_at(steps, ("inline", 0, 8, 9), place)]
        self.assertEqual(len(held), 5)

    def test_where_the_musts_rule_most_small_places_out(self):
        # A slide along the line of 0 and (1, 0) is unlike eleven whole points of it, then also unlike halves.
        points = [("told", (k, 1), (0, 1)) for k in (-7, -3, -2, -1, 2, 3, 4, 5, 6)]
        steps = [O, P, ("slide", 0, 1)] + points[:9] + [("through", 2, k) for k in [0, 1] + list(range(3, 12))]
        self.assertEqual(len(steps), 23)
        self.assertIsNone(first_made(steps, 2))
        self.fails(steps, ("same", 2, 0))
        self.fails(steps + [("told", (7, 1), (0, 1))], ("same", 2, 23))
        self.fails(steps + [("told", (8, 1), (0, 1))], ("far", 2, 0, 0, 23))
        self.always(steps, ("inline", 0, 1, 2))

    def test_without_the_places_tried_first(self):
        # All hangs on polynomials then.
        chance = random.Random(18)
        words = {"always": 0, "never": 0, "fails": 0}
        for steps in (ALL_WORDS, CURVES, SIX_FREE, NOWHERE, SLIDES, [O, P, Q, ("through", 0, 1)]):
            for word in ENTRIES:
                for _ in range(2):
                    saying = sayings_of(word, kinds_of(steps), chance, chance.random() < 0.3)
                    if saying is None or told.is_deep(steps, saying):
                        continue
                    due = self.ask(steps, saying)
                    with mock.patch.object(answers, "PROBES", ()):
                        found = self.ask(steps, saying)
                    self.assertEqual(found.word(), due.word())
                    words[found.word()] += 1
        self.assertGreater(min(words.values()), 15, words)

    def test_as_plain_geometry_tells(self):
        # What holds at many chance places is told to hold always.
        chance = random.Random(1)
        steps = [FREE, FREE, ("told", (1, 2), (2, 3)), ("part", 0, 1, (1, 2)), ("through", 0, 1), ("foot", 2, 4),
                 ("mirrored", 2, 4), ("round", 3, 0), ("round3", 0, 1, 2), ("again", 8, 4, 0), ("square", 3, 4)]
        places = [[(chance.randint(-9, 9), chance.choice([1, 7])) for _ in range(4)] for _ in range(6)]
        places = [[one if one[0] % 7 or one[1] == 1 else (1, 7) for one in place] for place in places]
        drawn = [drawn_at(steps, place) for place in places]
        words = {"always": 0, "fails": 0}
        for word in ENTRIES:
            for _ in range(12):
                saying = sayings_of(word, kinds_of(steps), chance, chance.random() < 0.2)
                if saying is not None and not told.is_deep(steps, saying):
                    found = self.ask(steps, saying)
                    self.assertEqual(found.word() == "always", all(means(saying, one) for one in drawn), saying)
                    words[found.word()] += 1
        self.assertGreater(min(words.values()), 15)


class TheAskersOwn(Asked):
    """Points 2 and 4."""

    ASKED = [
        ([FREE, FREE, ("part", 0, 1, (1, 3))], ("inline", 0, 1, 2)), ([FREE, O], ("same", 0, 1)),
        ([FREE, O, ("through", 0, 0)], ("same", 0, 1)), (SLIDES, ("inline", 0, 1, 2)), ([O, P], ("same", 0, 1)),
        (PARTS, ("inline", 0, 1, 23)), (PARTS, ("inline", 0, 1, 2)),
    ]

    def test_what_is_told_is_the_askers_own(self):
        for steps, saying in self.ASKED:
            first = answer_of(steps, saying)
            before = fields(first)
            lists = lists_in(list(vars(first).values()))
            self.assertEqual(len(lists), len({id(one) for one in lists}))
            second = answer_of(steps, saying)
            spoil(list(vars(first).values()))
            self.assertEqual(fields(second), before)
            self.assertEqual(fields(answer_of(deepcopy(steps), saying)), before)

    def test_what_is_handed_in_may_be_changed_behind_the_call(self):
        for steps, saying in self.ASKED:
            mine = deepcopy(steps)
            found = answer_of(mine, saying)
            before = fields(found)
            spoil(mine)
            self.assertEqual(fields(found), before)

    def test_the_refusals(self):
        steps = [FREE, O, ("through", 0, 1)]
        parts = [O] + [("part", k, k, (1, 2)) for k in range(5)] + [("part", 5, 3, (1, 2))]
        before = fields(answer_of(steps, ("on", 0, 2)))
        for drawing, saying, refusal, step in (
            ([O] * 25, ("on", 0, 2), TooMany, None),
            (steps, ("on", 0), BadSaying, None), (steps, None, BadSaying, None),
            (steps, ("on", 0, 1), BadThing, 3), (steps + [("through", 0, 0)], ("on", 9, 2), BadThing, 4),
            (parts, ("far", 6, 6, 6, 6), TooDeep, 7), ([], ("same", 0, 0), BadThing, 0),
        ):
            handed = deepcopy((drawing, saying))
            with self.assertRaises(DrawError) as caught:
                answer_of(drawing, saying)
            self.assertIs(caught.exception.__class__, refusal)
            self.assertEqual(getattr(caught.exception, "step", None), step)
            self.assertEqual((drawing, saying), handed)
            self.assertEqual(fields(answer_of(steps, ("on", 0, 2))), before)

    def test_just_one_of_three(self):
        # Point 1: for every drawing and every saying that is let by.
        chance = random.Random(3)
        for steps in DRAWINGS:
            for word in ENTRIES:
                saying = sayings_of(word, kinds_of(steps), chance, True)
                if saying is not None and not told.is_deep(steps, saying):
                    self.ask(steps, saying)


if __name__ == "__main__":
    unittest.main()

"""Points 16 and 17: sayings, what they come to, their refusals; and points 2 and 4, as far as they speak of them."""

import random
import unittest
from copy import deepcopy
from math import comb

import plain as by_hand
import told
from everydraw.drawings import freedoms_of, kinds_of, look_at, paper_of, weights_of
from everydraw.errors import (
    BadKnown, BadPlace, BadSaying, BadStep, BadThing, CantMake, DrawError, TooDeep, TooFree, TooMany,
)
from everydraw.exact import drawn_at, undone_at
from everydraw.sayings import comes_to, holds_at, look_saying
from everydraw.worths import SAYINGS
from examples import ALL_WORDS, CURVES, DRAWINGS, FREE, NOWHERE, O, P, PARTS, Q, SIX_FREE
from plain import check_form, check_own, free, plain, raw_paper
from told import ENTRIES, FITTING, means, sayings_of

# Points, lines, circles and a curve over two free points and a told one, for each word to be told of.
KINDS = [
    FREE, FREE, ("told", (1, 2), (-1, 3)), ("part", 0, 1, (2, 3)), O, Q,        # 0 to 5
    ("through", 0, 1), ("through", 2, 0), ("square", 1, 7),                     # 6 to 8
    ("round", 0, 1), ("round", 2, 1), ("round3", 0, 1, 2),                      # 9 to 11
    ("five", 1, 2, 3, 4, 5),                                                    # 12
]
# Each word over things all unlike, of which none is a part of another's.
ONE_OF_EACH = [
    ("inline", 0, 1, 2), ("inline", 0, 1, 3), ("one", 6, 7, 8), ("on", 2, 6), ("on", 0, 6), ("on", 2, 9),
    ("on", 2, 11), ("on", 0, 12), ("on", 4, 12), ("aside", 6, 7), ("aside", 8, 6), ("asquare", 6, 7),
    ("asquare", 7, 8), ("same", 0, 1), ("same", 2, 3), ("sameline", 6, 7), ("far", 0, 1, 2, 3),
    ("areas", 0, 1, 2, 3, 4, 5), ("ring", 0, 1, 2, 3), ("ring", 3, 2, 5, 4), ("angles", 0, 1, 2, 3, 4, 5),
    ("evenpair", 0, 1, 2, 3), ("touches", 6, 10), ("touches", 7, 9), ("touching", 9, 10), ("squareround", 9, 10),
    ("evenround", 9, 10),
]
TWICE = [
    ("inline", 0, 0, 1), ("inline", 2, 2, 2), ("one", 6, 6, 7), ("aside", 6, 6), ("asquare", 7, 7), ("same", 1, 1),
    ("sameline", 8, 8), ("far", 0, 1, 0, 2), ("far", 0, 0, 1, 2), ("far", 0, 1, 1, 0), ("areas", 0, 1, 2, 2, 1, 0),
    ("areas", 0, 1, 2, 0, 1, 3), ("ring", 0, 1, 2, 0), ("angles", 0, 1, 2, 2, 1, 0), ("angles", 0, 0, 1, 2, 2, 3),
    ("angles", 0, 1, 2, 0, 3, 2), ("evenpair", 0, 1, 0, 2), ("evenpair", 0, 1, 3, 3), ("touching", 9, 9),
    ("squareround", 10, 10), ("evenround", 11, 11),
]


def times_paper(paper, seed):
    """The paper with each share and each tuple times another polynomial."""
    found = []
    for k, (share, thing) in enumerate(paper):
        factor = plain(by_hand.made(seed + k, 2, 3, 1, 5))
        if factor == plain(0):
            factor = plain(-3)
        found.append(((plain(share) * factor).told(), tuple((plain(some) * factor).told() for some in thing)))
    return found


class Words(unittest.TestCase):
    def test_the_sixteen_words(self):
        self.assertEqual(set(SAYINGS), set(ENTRIES))
        self.assertEqual(len(ENTRIES), 16)
        self.assertEqual({saying[0] for saying in ONE_OF_EACH}, set(ENTRIES))


class ComesTo(unittest.TestCase):
    """Point 16."""

    def check(self, steps, saying, paper):
        found = comes_to(steps, saying, paper)
        self.assertIs(found.__class__, list)
        for some in found:
            check_form(self, some)
        self.assertEqual(found, told.told_worths(saying, [thing for _, thing in paper]), saying)
        return found

    def test_each_word_by_the_paper(self):
        paper = paper_of(KINDS)
        for saying in ONE_OF_EACH:
            found = self.check(KINDS, saying, paper)
            due = {"same": 2, "sameline": 3, "evenpair": 4}
            self.assertEqual(len(found), due.get(saying[0], 1), saying)

    def test_things_named_twice(self):
        paper = paper_of(KINDS)
        for saying in TWICE:
            self.check(KINDS, saying, paper)

    def test_by_other_papers(self):
        ends = KINDS[:9] + [("round", 0, 1), ("round", 2, 1), ("round3", 0, 1, 2)]
        for saying in ONE_OF_EACH + TWICE:
            if 12 not in saying:
                self.check(ends, saying, raw_paper(ends))
                negative = [(share, tuple((-plain(some)).told() for some in thing)) for share, thing in raw_paper(ends)]
                self.check(ends, saying, negative)
        few = [saying for saying in ONE_OF_EACH if saying[0] not in ("areas", "angles", "ring")]
        for saying in few:
            self.check(KINDS, saying, times_paper(paper_of(KINDS), 5))

    def test_of_the_examples(self):
        chance = random.Random(16)
        count = 0
        for steps in DRAWINGS:
            if steps == PARTS:
                continue
            paper = paper_of(steps)
            for word in ENTRIES:
                for _ in range(3):
                    saying = sayings_of(word, kinds_of(steps), chance, True)
                    if saying is not None and not told.is_deep(steps, saying):
                        weights = told.weights_by(steps, saying)
                        if sum(weights) < 14 or chance.random() < 0.1:
                            count += 1
                            for some, most in zip(self.check(steps, saying, paper), weights):
                                self.assertTrue(all(sum(powers) <= most for powers, _ in some))
        self.assertGreater(count, 60)

    def test_told_out(self):
        # Two free points (a, b) and (c, d), and the point (0, 0).
        steps = [FREE, FREE, O, ("through", 0, 1), ("round", 2, 0)]
        paper = paper_of(steps)
        a, b, c, d = (free(k) for k in range(4))
        for saying, due in (
            (("inline", 0, 1, 2), [a * d - b * c]),
            (("inline", 1, 0, 2), [b * c - a * d]),
            (("on", 2, 3), [a * d - b * c]),
            (("on", 1, 4), [c * c + d * d - a * a - b * b]),
            (("same", 0, 1), [a - c, b - d]),
            (("same", 1, 0), [c - a, d - b]),
            (("far", 0, 2, 1, 2), [a * a + b * b - c * c - d * d]),
            (("far", 2, 1, 0, 2), [c * c + d * d - a * a - b * b]),
            (("angles", 0, 2, 1, 0, 2, 0), [(a * d - b * c) * (a * a + b * b)]),
            (("angles", 0, 2, 0, 0, 2, 1), [(b * c - a * d) * (a * a + b * b)]),
            (("areas", 0, 1, 2, 1, 0, 2), [2 * (a * d - b * c)]),
            (("asquare", 3, 3), [(b - d) * (b - d) + (c - a) * (c - a)]),
        ):
            self.assertEqual(comes_to(steps, saying, paper), [plain(some).told() for some in due], saying)

    def test_the_same_up_to_a_factor_by_each_paper(self):
        # What is 0 by one paper is 0 by each.
        steps = [FREE, FREE, FREE, ("part", 0, 1, (2, 5)), ("round3", 0, 1, 2), ("through", 0, 1), ("foot", 2, 5)]
        for saying, nought in (
            (("inline", 0, 1, 3), True), (("on", 2, 4), True), (("on", 3, 5), True), (("on", 6, 5), True),
            (("on", 6, 4), False), (("inline", 0, 1, 2), False), (("same", 3, 6), False), (("inline", 6, 3, 1), True),
        ):
            for paper in (paper_of(steps), raw_paper(steps)):
                self.assertEqual(all(some == [] for some in comes_to(steps, saying, paper)), nought, saying)


class Refused(unittest.TestCase):
    def refused(self, ask, refusal, step=None):
        with self.assertRaises(DrawError) as caught:
            ask()
        self.assertIs(caught.exception.__class__, refusal)
        if refusal in (BadStep, BadThing, TooFree, TooDeep, BadKnown, CantMake):
            self.assertEqual(caught.exception.step, step)
        else:
            self.assertEqual(vars(caught.exception), {})

    def all_refuse(self, steps, saying, refusal, step=None):
        """Ahead of all that hangs on the paper and on the place."""
        before = deepcopy((steps, saying))
        self.refused(lambda: look_saying(steps, saying), refusal, step)
        for some in (None, [], [None] * len(steps), "paper", 7):
            self.refused(lambda: comes_to(steps, saying, some), refusal, step)
            self.refused(lambda: holds_at(steps, saying, some), refusal, step)
        self.assertEqual((steps, saying), before)


class LookSaying(Refused):
    """Point 17: the refusals."""

    def test_what_is_let_by(self):
        for saying in ONE_OF_EACH + TWICE:
            self.assertIsNone(look_saying(KINDS, saying))

    def test_the_drawing_ahead_of_all_else(self):
        for steps, refusal, step in (
            ([O] * 25, TooMany, None), ([O, ("nothing",)], BadStep, 1), ([O, ("through", 0, 1)], BadThing, 1),
            ([FREE] * 4, TooFree, 3), ([O] + [("part", k, k, (1, 2)) for k in range(6)], TooDeep, 6),
            ([FREE, FREE, ("round", 0, 1), ("touch", 2, 0)], BadKnown, 3),
        ):
            for saying in (None, ("inline",), ("inline", 0, 0, 99), ("same", 0, 0), ()):
                self.all_refuse(steps, saying, refusal, step)

    def test_bad_saying_no_tuple(self):
        for saying in (None, True, 5, "inline", "inline 0 1 2", ["inline", 0, 1, 2], [], {"inline": 0}, 1.5):
            self.all_refuse(KINDS, saying, BadSaying)

    def test_bad_saying_no_word(self):
        for saying in (
            (), ("",), ("line", 0, 1, 2), ("Inline", 0, 1, 2), ("inline ", 0, 1, 2), ("through", 0, 1), ("free",),
            (0, 1, 2), (None, 0, 1), (True,), (["inline"], 0, 1, 2), (("inline", 0, 1, 2),), ("rings", 0, 1, 2, 3),
        ):
            self.all_refuse(KINDS, saying, BadSaying)

    def test_bad_saying_too_few_or_too_many(self):
        for saying in ONE_OF_EACH:
            for wrong in (saying[:1], saying[:-1], saying + (0,), saying + (True,), saying + saying[1:]):
                self.all_refuse(KINDS, wrong, BadSaying)

    def test_bad_saying_what_is_no_whole_number(self):
        for saying in ONE_OF_EACH:
            for place in range(1, len(saying)):
                for wrong in (True, False, None, "0", (0,), [0], (0, 1), 0.0):
                    self.all_refuse(KINDS, saying[:place] + (wrong,) + saying[place + 1:], BadSaying)

    def test_bad_thing(self):
        for saying in ONE_OF_EACH:
            for place, due in enumerate(ENTRIES[saying[0]], start=1):
                wrong = [-1, -13, len(KINDS), len(KINDS) + 1, 10**29, -10**29]
                wrong += [k for k, kind in enumerate(kinds_of(KINDS)) if kind not in FITTING[due]]
                for number in wrong:
                    self.all_refuse(KINDS, saying[:place] + (number,) + saying[place + 1:], BadThing, len(KINDS))

    def test_bad_thing_tells_the_count_of_steps(self):
        for count in range(8):
            self.all_refuse([O] * count, ("same", 0, count), BadThing, count)
        self.all_refuse([], ("on", 0, 1), BadThing, 0)

    def test_no_saying_of_the_empty_drawing(self):
        for word, due in ENTRIES.items():
            self.all_refuse([], (word,) + (0,) * len(due), BadThing, 0)

    def test_the_order(self):
        # BadSaying ahead of BadThing, BadThing ahead of TooDeep.
        self.all_refuse(KINDS, ("inline", 99, 98, True), BadSaying)
        self.all_refuse(KINDS, ("inline", 99, 98), BadSaying)
        steps = [O] + [("part", k, k, (1, 2)) for k in range(5)] + [("part", 5, 3, (1, 2))]
        self.all_refuse(steps, ("far", 6, 6, 6, 6), TooDeep, 7)
        self.all_refuse(steps, ("far", 6, 6, 6, 7), BadThing, 7)
        self.all_refuse(steps, ("far", 6, 6, 6, True), BadSaying)

    def test_too_deep_by_sizes(self):
        # Each of a told point's sizes is 1, each of a part's those of both points added up.
        steps = [O, P] + [("part", k, k, (1, 2)) for k in range(1, 6)] + [
            ("part", 6, 4, (1, 2)), ("part", 5, 3, (1, 2)), ("part", 8, 0, (1, 2)),
        ]
        self.assertEqual([one[0] for one in by_hand.weights_by(steps, True)], [1, 1, 2, 4, 8, 16, 32, 40, 20, 21])
        for saying, size in (
            (("inline", 7, 7, 8), 100), (("inline", 7, 9, 7), 101), (("same", 7, 7), 80), (("far", 8, 5, 4, 3), 96),
            (("far", 6, 5, 1, 1), 100), (("far", 6, 5, 2, 1), 102), (("evenpair", 7, 8, 8, 8), 100),
            (("evenpair", 7, 9, 8, 8), 101), (("angles", 8, 3, 8, 1, 2, 2), 55), (("areas", 7, 8, 8, 5, 2, 2), 100),
            (("areas", 7, 8, 9, 5, 2, 2), 101), (("ring", 7, 3, 2, 2), 96), (("ring", 7, 4, 1, 1), 100),
            (("ring", 7, 4, 2, 1), 102), (("angles", 9, 9, 8, 2, 2, 2), 91),
        ):
            self.assertEqual(max(told.weights_by(steps, saying, True)), size, saying)
            if size > 100:
                self.all_refuse(steps, saying, TooDeep, len(steps))
            else:
                self.assertIsNone(look_saying(steps, saying))

    def grown(self, count, chance):
        """A drawing with so many free numbers and things of many weights, and without told points."""
        steps = {
            2: [FREE, ("part", 0, 0, (1, 2))], 3: [FREE, ("part", 0, 0, (1, 2)), ("slide", 0, 1)], 4: [FREE, FREE],
            5: [FREE, FREE, ("slide", 0, 1)], 6: [FREE, FREE, FREE],
        }[count] + [("through", 0, 1), ("round", 0, 1)]
        for _ in range(60):
            points = [k for k, kind in enumerate(kinds_of(steps)) if kind == "point"]
            lines = [k for k, kind in enumerate(kinds_of(steps)) if kind == "line"]
            step = chance.choice([
                ("foot", chance.choice(points), chance.choice(lines)), ("square", points[-1], lines[-1]),
                ("through", points[-1], chance.choice(points)), ("round", points[-1], chance.choice(points)),
                ("part", points[-1], chance.choice(points), (1, 2)),
            ])
            try:
                look_at(steps + [step])
            except TooDeep:
                continue
            if len(steps) < 20:
                steps.append(step)
        return steps

    def test_too_deep_by_the_count_of_powers(self):
        # The greatest weight that is let by with n free numbers: 3916 powers, 3654, 3876, 3003 and 3003. Without told
        # points no size is above the weights, so that a size of 100 lets these by. With one free point all weights
        # are even, so that 86 stands for 87.
        for count, most, above in ((2, 86, 88), (3, 26, 27), (4, 15, 16), (5, 10, 11), (6, 8, 9)):
            self.assertLessEqual(comb(count + above - 1, count), 4000)
            self.assertGreater(comb(count + above, count), 4000)
            seen = set()
            chance = random.Random(count)
            while not {most, above} <= seen:
                steps = self.grown(count, chance)
                self.assertEqual(freedoms_of(steps), count)
                for _ in range(50):
                    saying = sayings_of(chance.choice(list(ENTRIES)), kinds_of(steps), chance, True)
                    weight = max(told.weights_by(steps, saying))
                    self.assertEqual(weight, max(told.weights_by(steps, saying, True)))
                    seen.add(weight)
                    if weight > most:
                        self.refused(lambda: look_saying(steps, saying), TooDeep, len(steps))
                    else:
                        self.assertIsNone(look_saying(steps, saying))


class HoldsAt(Refused):
    """Point 17: whether a saying holds at a place."""

    SHAPES = [
        FREE, FREE, FREE, ("told", (1, 2), (0, 1)), ("told", (0, 1), (1, 1)), ("told", (1, 1), (1, 1)),
        ("through", 0, 1), ("through", 2, 3), ("through", 4, 5), ("side", 3, 6), ("square", 4, 6),
        ("round", 0, 2), ("round", 3, 1), ("round", 4, 5), ("round3", 3, 4, 1), ("mirroredround", 13, 6),
        ("five", 0, 3, 4, 5, 1), ("part", 0, 1, (1, 3)), ("part", 1, 0, (2, 1)),
    ]
    # What chance doesn't hit upon.
    EVEN = [("evenpair",) + order for order in ((0, 1, 17, 18), (17, 18, 1, 0), (0, 1, 18, 17), (0, 17, 1, 18))]

    def test_against_plain_geometry(self):
        chance = random.Random(17)
        numbers = [(-1, 1), (0, 1), (0, 1), (1, 2), (1, 1), (1, 1), (3, 2)]
        kinds = kinds_of(self.SHAPES)
        found = {word: {True: 0, False: 0} for word in ENTRIES}
        for _ in range(600):
            place = [chance.choice(numbers) for _ in range(6)]
            if undone_at(self.SHAPES, place) is not None:
                continue
            drawn = drawn_at(self.SHAPES, place)
            for word in ENTRIES:
                saying = sayings_of(word, kinds, chance, chance.random() < 0.1)
                if word == "evenpair" and chance.random() < 0.5:
                    saying = chance.choice(self.EVEN)
                if told.is_deep(self.SHAPES, saying):
                    continue
                due = means(saying, drawn)
                self.assertIs(holds_at(self.SHAPES, saying, place), due, (saying, place))
                if len(set(saying)) == len(saying):
                    found[word][due] += 1
        for word in ENTRIES:
            self.assertGreater(min(found[word].values()), 1, (word, found[word]))

    def test_places_of_thirty_figures(self):
        place = [(by_hand.THIRTY - 2 * k, by_hand.THIRTY - 1 - 2 * k) for k in range(6)]
        drawn = drawn_at(self.SHAPES, place)
        chance = random.Random(30)
        for word in ENTRIES:
            saying = sayings_of(word, kinds_of(self.SHAPES[:14]), chance)
            self.assertIs(holds_at(self.SHAPES, saying, place), means(saying, drawn))

    def test_told_out(self):
        steps = [O, P, Q, ("told", (1, 1), (1, 1)), ("told", (1, 2), (1, 2)), ("told", (2, 1), (0, 1)), FREE]
        place = [(1, 3), (0, 1)]
        for saying, due in (
            (("inline", 0, 4, 3), True), (("inline", 0, 4, 2), False), (("inline", 0, 1, 6), True),
            (("far", 0, 1, 2, 3), True), (("far", 0, 3, 1, 2), True), (("far", 0, 3, 1, 3), False),
            (("areas", 0, 1, 2, 1, 3, 2), True), (("areas", 0, 1, 2, 2, 1, 0), False),
            (("ring", 0, 1, 2, 3), True), (("ring", 0, 1, 5, 6), True), (("ring", 0, 1, 2, 4), False),
            (("angles", 1, 0, 2, 2, 0, 1), True), (("angles", 1, 0, 3, 3, 0, 2), True),
            (("angles", 1, 0, 3, 2, 0, 3), False), (("angles", 1, 0, 3, 5, 0, 4), True),
            (("evenpair", 0, 5, 1, 6), False), (("same", 4, 3), False), (("same", 4, 4), True),
        ):
            self.assertIs(holds_at(steps, saying, place), due, saying)
        # The middle and the third of a half: (1, 0) and (0, 0) part (2/3, 0) and (2, 0) evenly.
        for x, due in (((2, 3), True), ((1, 3), False), ((-2, 3), False)):
            self.assertIs(holds_at(steps, ("evenpair", 0, 1, 6, 5), [x, (0, 1)]), due)
            self.assertIs(holds_at(steps, ("evenpair", 1, 0, 5, 6), [x, (0, 1)]), due)
            self.assertIs(holds_at(steps, ("evenpair", 6, 5, 0, 1), [x, (0, 1)]), due)
            self.assertIs(holds_at(steps, ("evenpair", 0, 1, 6, 5), [x, (1, 1)]), False)

    def test_bad_place(self):
        steps = [FREE, O, ("through", 0, 1)]
        one = (1, 2)
        for place in ([], [one], [one] * 3, [one, (2, 4)], [(1, 0), one], [one, 1], [True, one], [one, (True, 2)],
                      [[1, 2], one], None, (one, one), "12", 5):
            self.refused(lambda: holds_at(steps, ("same", 0, 1), place), BadPlace)
        # Ahead of CantMake.
        self.refused(lambda: holds_at(steps + [("through", 1, 1)], ("same", 0, 1), [one]), BadPlace)

    def test_cant_make(self):
        steps = [FREE, O, ("through", 0, 1), ("round", 0, 1)]
        for saying in (("same", 0, 1), ("on", 0, 2), ("inline", 1, 1, 1)):
            self.refused(lambda: holds_at(steps, saying, [(0, 1), (0, 1)]), CantMake, 2)
            self.refused(lambda: holds_at([FREE, O, ("round", 0, 1)] + [O] * 3, ("same", 0, 1), [(0, 1)] * 2),
                         CantMake, 2)
        for k in range(len(NOWHERE)):
            if k >= 2:
                self.refused(lambda: holds_at(NOWHERE[:k + 1], ("same", 0, 1), [(1, 1), (2, 1)]), CantMake, 2)

    def test_the_order(self):
        steps = [FREE, O, ("through", 1, 1)]
        for place in (None, [], [(0, 1)] * 2, [(2, 4), (1, 1)]):
            self.refused(lambda: holds_at(steps, ("same", 0), place), BadSaying)
            self.refused(lambda: holds_at(steps, ("same", 0, 2), place), BadThing, 3)

    def test_as_the_paper_tells(self):
        chance = random.Random(6)
        for steps in (ALL_WORDS, CURVES, SIX_FREE):
            place = [(3, 7), (-2, 1), (5, 2), (1, 1), (4, 3), (-1, 6)][:freedoms_of(steps)]
            self.assertIsNone(undone_at(steps, place))
            drawn = drawn_at(steps, place)
            for word in ENTRIES:
                for _ in range(4):
                    saying = sayings_of(word, kinds_of(steps), chance)
                    if saying is not None and not told.is_deep(steps, saying):
                        self.assertIs(holds_at(steps, saying, place), means(saying, drawn))


class TheAskersOwn(Refused):
    """Points 2 and 4."""

    def test_what_is_handed_in_and_what_is_told(self):
        paper = paper_of(KINDS)
        place = [(1, 2), (0, 1), (3, 1), (-1, 3)]
        for saying in ONE_OF_EACH + TWICE[:6]:
            check_own(self, look_saying, [KINDS, saying])
            check_own(self, holds_at, [KINDS, saying, place])
            if 12 not in saying:
                check_own(self, comes_to, [KINDS, saying, paper])

    def test_behind_a_refusal(self):
        paper = paper_of(KINDS)
        place = [(1, 2), (0, 1), (3, 1), (-1, 3)]
        asked = ONE_OF_EACH[:5]

        def ask():
            return [(look_saying(KINDS, saying), comes_to(KINDS, saying, paper), holds_at(KINDS, saying, place),
                     weights_of(KINDS)) for saying in asked]

        before = ask()
        for wrong, refusal in ((("inline", 0), BadSaying), (("on", 0, 0), BadThing)):
            self.all_refuse(KINDS, wrong, refusal, len(KINDS))
            self.assertEqual(ask(), before)
        self.refused(lambda: holds_at(KINDS, asked[0], place[1:]), BadPlace)
        self.refused(lambda: holds_at(KINDS, asked[0], [(0, 1)] * 4), CantMake, 3 + 3)
        self.assertEqual(ask(), before)


if __name__ == "__main__":
    unittest.main()

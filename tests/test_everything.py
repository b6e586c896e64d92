"""Point 20: all sayings; and points 2 and 4, as far as they speak of them."""

import random
import unittest
from copy import deepcopy
from itertools import permutations

import told
from everydraw.answers import answer_of
from everydraw.drawings import kinds_of, weights_of
from everydraw.errors import BadSaying, BadStep, BadThing, DrawError, TooDeep, TooFree, TooMany
from everydraw.everything import all_sayings, new_sayings
from everydraw.sayings import look_saying
from examples import ALL_WORDS, CURVES, DRAWINGS, FREE, NOWHERE, O, P, Q, SLIDES
from plain import check_own
from told import ENTRIES, FITTING

# Of each word the orders of its places that tell the same by its sense.
BOTH_WAYS = [(0, 1), (1, 0)]
ALIKE = {
    "inline": list(permutations(range(3))), "one": list(permutations(range(3))), "ring": list(permutations(range(4))),
    "aside": BOTH_WAYS, "asquare": BOTH_WAYS, "same": BOTH_WAYS, "sameline": BOTH_WAYS, "touching": BOTH_WAYS,
    "squareround": BOTH_WAYS, "evenround": BOTH_WAYS,
    "far": [(0, 1, 2, 3), (1, 0, 2, 3), (0, 1, 3, 2), (1, 0, 3, 2), (2, 3, 0, 1), (3, 2, 0, 1), (2, 3, 1, 0),
            (3, 2, 1, 0)],
}


def orders(kinds, word):
    """All sayings with the word over things of the right kinds, none with a thing twice, lesser ones first."""
    due = ENTRIES[word]
    return [
        (word,) + order for order in permutations(range(len(kinds)), len(due))
        if all(kinds[number] in FITTING[one] for number, one in zip(order, due))
    ]


def is_least(saying):
    alike = [tuple(saying[1 + place] for place in order) for order in ALIKE.get(saying[0], [])]
    return all(saying[1:] <= other for other in alike)


def by_hand(steps, words):
    """Each saying asked by answer_of."""
    found = []
    for word in dict.fromkeys(words):
        for saying in orders(kinds_of(steps), word):
            if is_least(saying) and not told.is_deep(steps, saying):
                if answer_of(steps, saying).word() == "always":
                    found.append(saying)
    return found


# Small drawings in which much holds.
HEIGHTS = [FREE, FREE, FREE, ("through", 1, 2), ("through", 0, 2), ("square", 0, 3), ("square", 1, 4), ("meet", 5, 6)]
SQUARE = [O, P, Q, ("told", (1, 1), (1, 1)), ("through", 0, 1), ("through", 2, 3), ("through", 0, 2)]
EVEN = [O, FREE, ("part", 0, 1, (1, 3)), ("part", 0, 1, (-1, 1)), ("part", 0, 1, (1, 1))]
SIX = [O, P, Q, FREE, ("told", (1, 1), (1, 1))]
CIRCLES = [FREE, FREE, ("through", 0, 1), ("round", 0, 1), ("round", 1, 0), ("axis", 3, 4), ("touch", 3, 1),
           ("mirroredround", 3, 2), ("part", 1, 0, (2, 1))]
ON_ONE = [O, P, ("round", 0, 1), ("roll", 2, 1), ("roll", 2, 1), ("part", 3, 0, (2, 1)), ("through", 3, 4)]
LINES = [O, P, Q, ("through", 0, 1), ("through", 0, 2), ("side", 2, 3), ("side", 1, 4), ("meet", 5, 6),
         ("square", 0, 3)]
CROSSING = [O, ("told", (1, 1), (1, 1)), P, ("round", 0, 2), ("round", 1, 2), ("round", 0, 2)]
SMALL = [HEIGHTS, SQUARE, EVEN, CIRCLES, ON_ONE, LINES, CROSSING]


class AllSayings(unittest.TestCase):
    def check(self, steps, words):
        due = by_hand(steps, words)
        found = all_sayings(steps, words)
        self.assertIs(found.__class__, list)
        self.assertEqual(found, due)
        self.assertEqual(new_sayings(steps, words), [one for one in due if len(steps) - 1 in one[1:]])
        return due

    def test_each_word_against_asking_one_by_one(self):
        seen = set()
        for steps in SMALL:
            for word in ENTRIES:
                if len(orders(kinds_of(steps), word)) <= 500:
                    seen |= {saying[0] for saying in self.check(steps, [word])}
        self.assertEqual(set(ENTRIES) - seen, {"areas", "angles"})

    def test_several_words_in_the_order_given(self):
        chance = random.Random(20)
        for steps in SMALL + [ALL_WORDS[:12], CURVES[:8], SLIDES]:
            words = ["on", "aside", "asquare", "same", "sameline", "one", "inline", "touches", "evenround"]
            for _ in range(2):
                chance.shuffle(words)
                some = words[:4]
                if sum(len(orders(kinds_of(steps), word)) for word in some) <= 500:
                    self.check(steps, some)

    def test_told_out(self):
        words = ["one", "on", "asquare"]
        self.assertEqual(all_sayings(HEIGHTS, words), [
            ("on", 0, 4), ("on", 0, 5), ("on", 1, 3), ("on", 1, 6), ("on", 2, 3), ("on", 2, 4), ("on", 7, 5),
            ("on", 7, 6),
            ("asquare", 3, 5), ("asquare", 4, 6),
        ])
        self.assertEqual(
            all_sayings(SQUARE, ["far"]), [("far", 0, 1, 2, 3), ("far", 0, 2, 1, 3), ("far", 0, 3, 1, 2)]
        )
        self.assertEqual(all_sayings(SQUARE, ["ring", "aside", "asquare"]), [
            ("ring", 0, 1, 2, 3), ("aside", 4, 5), ("asquare", 4, 6), ("asquare", 5, 6),
        ])
        self.assertEqual(all_sayings(SQUARE, ["asquare", "ring", "asquare", "aside", "ring"]), [
            ("asquare", 4, 6), ("asquare", 5, 6), ("ring", 0, 1, 2, 3), ("aside", 4, 5),
        ])
        self.assertEqual(all_sayings(EVEN, ["same"]), [("same", 1, 4)])
        self.assertEqual(new_sayings(SQUARE, ["aside", "asquare"]), [("asquare", 4, 6), ("asquare", 5, 6)])

    def test_evenpair_is_told_in_each_order(self):
        steps = EVEN[:4]
        due = [("evenpair",) + order for order in permutations(range(4)) if set(order[:2]) in ({0, 1}, {2, 3})]
        self.assertEqual(all_sayings(steps, ["evenpair"]), due)
        self.assertEqual(len(due), 8)

    def test_which_orders_count_as_one(self):
        # All on one line at one point, so that each order of each word holds.
        points = [O, O, O, O]
        for word, count in (("inline", 4), ("ring", 1), ("same", 6), ("far", 3), ("evenpair", 24)):
            found = self.check(points, [word])
            self.assertEqual(len(found), count)
        lines = [O, P] + [("through", 0, 1)] * 4
        for word, count in (("one", 4), ("aside", 6), ("sameline", 6), ("asquare", 0), ("on", 8)):
            self.assertEqual(len(self.check(lines, [word])), count)
        circles = [O, P] + [("round", 0, 1)] * 3 + [("touch", 2, 1)]
        for word, count in (("touching", 3), ("evenround", 3), ("squareround", 0), ("touches", 3)):
            self.assertEqual(len(self.check(circles, [word])), count)
        self.assertEqual(self.check(CROSSING, ["squareround"]), [("squareround", 3, 4), ("squareround", 4, 5)])

    def test_far_names_four_points_unlike(self):
        found = all_sayings(SIX, ["far"])
        self.assertTrue(all(len(set(saying)) == 5 for saying in found))
        self.assertEqual(found, [("far", 0, 1, 2, 4), ("far", 0, 2, 1, 4), ("far", 0, 4, 1, 2)])

    def test_no_words(self):
        for steps in DRAWINGS:
            self.assertEqual(all_sayings(steps, []), [])
            self.assertEqual(new_sayings(steps, []), [])

    def test_the_empty_drawing(self):
        self.assertEqual(all_sayings([], list(ENTRIES)), [])
        self.assertEqual(new_sayings([], list(ENTRIES)), [])
        self.assertEqual(all_sayings([O], list(ENTRIES)), [])

    def test_where_a_step_is_made_nowhere(self):
        for steps in ([O, O, ("through", 0, 1)], [FREE, O, O, ("round", 1, 2)], NOWHERE[:8], [O, P, ("through", 0, 0)]):
            for words in (["same"], ["inline", "on"], ["sameline", "aside"]):
                self.assertEqual(all_sayings(steps, words), [])
                self.assertEqual(new_sayings(steps, words), [])
        self.assertEqual(all_sayings([O, O], ["same"]), [("same", 0, 1)])

    def test_sayings_that_are_refused_are_left_out(self):
        # All these points are one, but some have great sizes.
        steps = [O] + [("part", k, k, (1, 2)) for k in range(5)]
        words = ["ring", "evenpair", "inline"]
        found = {word: all_sayings(steps, [word]) for word in words}
        for word in words:
            kept = []
            for saying in orders(kinds_of(steps), word):
                if is_least(saying):
                    try:
                        look_saying(steps, saying)
                        kept.append(saying)
                    except TooDeep:
                        pass
            self.assertEqual(found[word], kept)
        self.assertLess(len(found["ring"]), 15)
        self.assertGreater(len(found["ring"]), 0)

    def test_new_sayings(self):
        for steps in SMALL:
            for count in range(len(steps) + 1):
                for words in (["on", "same"], ["aside", "sameline", "inline"]):
                    every = all_sayings(steps[:count], words)
                    self.assertEqual(new_sayings(steps[:count], words), [one for one in every if count - 1 in one[1:]])

    def test_new_sayings_of_all_steps_are_all_sayings(self):
        for steps in (SQUARE, CIRCLES):
            words = ["on", "asquare", "touches"]
            found = []
            for count in range(len(steps) + 1):
                found += new_sayings(steps[:count], words)
            self.assertEqual(sorted(found), sorted(all_sayings(steps, words)))


class Refusals(unittest.TestCase):
    def refused(self, steps, words, refusal, step=None):
        before = deepcopy((steps, words))
        for ask in (all_sayings, new_sayings):
            with self.assertRaises(DrawError) as caught:
                ask(steps, words)
            self.assertIs(caught.exception.__class__, refusal)
            self.assertEqual(vars(caught.exception), {} if step is None else {"step": step})
        self.assertEqual((steps, words), before)

    def test_words_that_are_none(self):
        for wrong in ("", "Inline", "inline ", "free", "through", "lines", None, True, 0, ("inline",), ["inline"], []):
            for words in ([wrong], ["on", wrong], [wrong, "on"], ["on", wrong, "on"]):
                self.refused(SQUARE, words, BadSaying)
                self.refused([], words, BadSaying)
                self.refused(NOWHERE, words, BadSaying)

    def test_the_drawing_ahead_of_all_else(self):
        for steps, refusal, step in (
            ([O] * 25, TooMany, None), ([O, None], BadStep, 1), ([O, ("through", 0, 1)], BadThing, 1),
            ([FREE] * 4, TooFree, 3),
        ):
            for words in ([], ["same"], ["none"], [None]):
                self.refused(steps, words, refusal, step)

    def test_just_500_sayings_and_the_next_above(self):
        # Six points, two lines and a circle: 120, 18, 2 and 360.
        steps = [O, P, Q, FREE, ("told", (1, 1), (1, 1)), ("told", (2, 1), (1, 1)), ("through", 0, 1),
                 ("through", 1, 2),
                 ("round", 0, 1)]
        words = ["inline", "on", "aside", "far"]
        self.assertEqual(sum(len(orders(kinds_of(steps), word)) for word in words), 500)
        found = all_sayings(steps, words)
        self.assertEqual(found, by_hand(steps, words))
        self.assertGreater(len(found), 5)
        # A word given twice counts once.
        self.assertEqual(all_sayings(steps, words + words), found)
        self.refused(steps, words + ["sameline"], TooMany)
        self.refused(steps + [P], words, TooMany)
        self.refused(steps + [("side", 2, 6)], words, TooMany)
        # Five points, eight lines and a circle: 336, 45 and 120, that is 501; without the circle 496.
        steps = [O, P, Q, ("told", (2, 1), (1, 1)), FREE] + [("through", k, 4) for k in range(4)] + [
            ("through", 0, k) for k in (1, 2, 3)] + [("side", 4, 9), ("round", 0, 1)]
        words = ["one", "on", "far"]
        self.assertEqual(sum(len(orders(kinds_of(steps), word)) for word in words), 501)
        self.refused(steps, words, TooMany)
        self.refused(steps, ["far", "one", "on", "one"], TooMany)
        self.assertEqual(len(all_sayings(steps[:-1], words)), len(by_hand(steps[:-1], words)))

    def test_all_orders_count(self):
        # Nine points have 504 orders of three, though but 84 sayings that are told.
        self.refused([O] * 9, ["inline"], TooMany)
        self.assertEqual(len(all_sayings([O] * 8, ["inline"])), 56)
        self.refused([O] * 6, ["areas"], TooMany)
        self.refused([O] * 6, ["angles"], TooMany)
        self.assertEqual(all_sayings([O] * 5, ["areas", "angles"]), [])
        # Five points have 60, 120, 120 and 120 sayings with the other words, and none with these two.
        words = ["inline", "ring", "far", "evenpair", "areas", "angles"]
        self.assertEqual(len(all_sayings([O] * 5, words)), 10 + 5 + 15 + 120)
        self.refused([O] * 24, ["far"], TooMany)
        self.refused([O] * 24, ["same"], TooMany)
        self.assertEqual(len(all_sayings([O] * 22, ["same"])), 231)
        self.refused([O] * 24, ["areas", "on"], TooMany)
        # Also of new_sayings, and where a step is made nowhere.
        self.refused([O] * 9 + [("through", 0, 0)], ["inline"], TooMany)

    def test_a_word_that_is_none_ahead_of_too_many(self):
        self.refused([O] * 9, ["inline", "none"], BadSaying)
        self.refused([O] * 9, [None, "inline"], BadSaying)


class TheAskersOwn(unittest.TestCase):
    def test_what_is_handed_in_and_what_is_told(self):
        for steps in SMALL:
            for words in ([], ["on"], ["asquare", "same", "on"]):
                check_own(self, all_sayings, [steps, words])
                check_own(self, new_sayings, [steps, words])

    def test_behind_a_refusal(self):
        before = all_sayings(SQUARE, ["far", "on"])
        weights = weights_of(SQUARE)
        for steps, words in ((SQUARE, ["none"]), ([O] * 9, ["inline"]), ([None], ["on"])):
            with self.assertRaises(DrawError):
                all_sayings(steps, words)
            self.assertEqual(all_sayings(SQUARE, ["far", "on"]), before)
            self.assertEqual(weights_of(SQUARE), weights)

    def test_asked_in_another_order(self):
        asked = [(steps, [word]) for steps in SMALL for word in ("on", "asquare", "same")]
        first = [all_sayings(*one) for one in asked]
        last = [all_sayings(*one) for one in reversed(asked)]
        self.assertEqual(first, last[::-1])


if __name__ == "__main__":
    unittest.main()

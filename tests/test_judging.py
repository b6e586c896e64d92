"""Point 19: the judge; and points 2 and 4, as far as they speak of it."""

import random
import unittest
from copy import deepcopy

import told
from everydraw.answers import Always, Answer, Fails, Never, answer_of
from everydraw.drawings import kinds_of, paper_of
from everydraw.errors import BadSaying, BadStep, BadThing, DrawError, TooDeep, TooMany
from everydraw.judging import always_by, fails_by, judge, never_by
from everydraw.polys import poly_less, poly_times
from everydraw.sayings import comes_to, holds_at
from examples import ALL_WORDS, CURVES, DRAWINGS, FREE, NOWHERE, O, P, PARTS, Q, SIX_FREE, SLIDES
from plain import check_own, free, lists_in, raw_paper, spoil
from told import ENTRIES, sayings_of

ONE = [((), 1)]
MIDDLE = [FREE, FREE, ("part", 0, 1, (1, 2)), ("through", 0, 1), ("round", 2, 0)]
HELD = ("inline", 0, 1, 2)
NOT_HELD = ("far", 0, 1, 2, 0)
# The foot's share is 2, and that of the last line is a polynomial.
SHARED = [O, P, FREE, ("through", 0, 1), ("foot", 2, 3), ("part", 4, 4, (1, 3)), ("through", 4, 0)]
# Step 4 is made nowhere, step 2 only somewhere; 5 is made nowhere, too.
NONE = [FREE, O, ("through", 0, 1), ("foot", 1, 2), ("meet", 2, 2), ("through", 0, 0), P]
JUNK = [
    None, True, False, 0, 1, -7, 10**29, "", "always", [], (), [[]], [()], ([],), ((),), [None], (None,), [[], []],
    [([], ())], [(ONE, ())], [(ONE, (ONE, ONE, ONE))], [[ONE, (ONE, ONE, ONE)]], [((((), 1),), ())], ["paper"] * 5,
    [(1, 2)] * 4, [(0, 1)] * 3, [(0, 1)] * 5, [(ONE, (ONE, ONE, ONE))] * 5, [True] * 5, [(True, False)] * 4,
]


def deep(kind, depth):
    some = kind()
    for _ in range(depth):
        some = kind([some])
    return some


class Judging(unittest.TestCase):
    def yes(self, steps, saying, found):
        self.assertIs(judge(steps, saying, found), True)

    def no(self, steps, saying, found):
        before = deepcopy((steps, saying, list(vars(found).items())))
        self.assertIs(judge(steps, saying, found), False)
        self.assertEqual((steps, saying, list(vars(found).items())), before)

    def with_entry(self, paper, k, entry):
        return paper[:k] + [entry] + paper[k + 1:]

    def with_thing(self, paper, k, place, some):
        share, thing = paper[k]
        return self.with_entry(paper, k, (share, thing[:place] + (some,) + thing[place + 1:]))


class Right(Judging):
    def test_each_answer_that_is_told(self):
        chance = random.Random(19)
        words = set()
        for steps in DRAWINGS:
            for word in ENTRIES:
                for _ in range(2):
                    saying = sayings_of(word, kinds_of(steps), chance, True)
                    if saying is not None and not told.is_deep(steps, saying):
                        found = answer_of(steps, saying)
                        words.add(found.word())
                        self.yes(steps, saying, found)
        self.assertEqual(len(words), 3)

    def test_answers_made_of_what_was_told(self):
        asked = ((MIDDLE, HELD), (MIDDLE, ("on", 1, 4)), (SHARED, ("on", 4, 3)), (PARTS, ("inline", 0, 1, 9)))
        for steps, saying in asked:
            self.yes(steps, saying, always_by(answer_of(steps, saying).paper))
            self.yes(steps, saying, always_by(paper_of(steps)))
        found = answer_of(NONE, ("same", 0, 0))
        self.yes(NONE, ("same", 0, 0), never_by(found.step, found.paper))
        self.yes(NONE, ("same", 0, 1), never_by(4, paper_of(NONE)[:4]))
        self.yes(MIDDLE, NOT_HELD, fails_by(answer_of(MIDDLE, NOT_HELD).place))
        self.yes(MIDDLE, NOT_HELD, fails_by([(1, 2), (3, 4), (-5, 7), (10**29, 10**30 - 1)]))

    def test_other_papers(self):
        for steps, saying in ((MIDDLE, HELD), (SHARED, ("on", 4, 3)), (SHARED, ("same", 4, 5))):
            paper = raw_paper(steps)
            self.yes(steps, saying, always_by(paper))
            for k in range(len(steps)):
                self.yes(steps, saying, always_by(raw_paper(steps, k)))
        self.yes(NONE, ("same", 0, 0), never_by(4, raw_paper(NONE)[:4]))
        self.yes(NONE, ("same", 0, 0), never_by(4, raw_paper(NONE[:4], 2)))

    def test_a_share_with_free_numbers(self):
        # The last line's raw rule has the factor x, and so each of its share's parts lets it by.
        steps = [O, P, FREE, ("through", 0, 1), ("foot", 2, 3), ("through", 4, 0)]
        x, paper = free(0).told(), raw_paper(steps)
        share, thing = paper[5]
        self.assertEqual((share, thing[0], thing[2]), (ONE, [], []))
        self.assertEqual(len(thing[1]), 1)
        halved = (x, ([], [((), thing[1][0][1])], []))
        self.yes(steps, ("on", 2, 5), fails_by([(1, 1), (1, 1)]))
        self.yes(steps, ("on", 0, 5), always_by(self.with_entry(paper, 5, halved)))
        self.yes(steps, ("aside", 3, 5), always_by(self.with_entry(paper, 5, halved)))
        self.no(steps, ("aside", 3, 5), always_by(self.with_entry(paper, 5, (x, thing))))

    def test_made_by_hand(self):
        # What the document tells: a point free, another one, and the line through them.
        steps = [FREE, O, ("through", 0, 1)]
        paper = [
            (ONE, ([((1,), 1)], [((0, 1), 1)], ONE)), (ONE, ([], [], ONE)),
            (ONE, ([((0, 1), 1)], [((1,), -1)], [])),
        ]
        self.yes(steps, ("on", 0, 2), always_by(paper))
        self.no(steps, ("same", 0, 1), always_by(paper))
        for sign in (-1, 2):
            wrong = self.with_entry(paper, 2, (ONE, ([((0, 1), sign)], [((1,), -sign)], [])))
            self.no(steps, ("on", 0, 2), always_by(wrong))
        self.yes(steps, ("on", 0, 2), always_by(self.with_entry(paper, 2, (
            [((), -1)], ([((0, 1), -1)], [((1,), 1)], []),
        ))))


class WrongAlways(Judging):
    def setUp(self):
        self.paper = paper_of(SHARED)
        self.saying = ("on", 4, 3)
        self.yes(SHARED, self.saying, always_by(self.paper))

    def wrong(self, paper):
        self.no(SHARED, self.saying, always_by(paper))

    def test_where_the_saying_fails(self):
        for steps, saying in ((MIDDLE, NOT_HELD), (SHARED, ("on", 2, 3)), (SHARED, ("same", 2, 4))):
            for paper in (paper_of(steps), raw_paper(steps)):
                self.no(steps, saying, always_by(paper))

    def test_all_that_it_comes_to(self):
        # The first, or the second alone, of what same comes to is 0.
        steps = [O, FREE, ("through", 0, 1), P, ("through", 0, 3), ("foot", 1, 4), Q, ("through", 0, 6), ("foot", 1, 7)]
        for saying, nought in ((("same", 1, 5), [True, False]), (("same", 1, 8), [False, True])):
            paper = paper_of(steps)
            self.assertEqual([some == [] for some in comes_to(steps, saying, paper)], nought)
            self.no(steps, saying, always_by(paper))

    def test_too_few_or_too_many_steps(self):
        for count in range(len(SHARED)):
            self.wrong(self.paper[:count])
            self.wrong(self.paper[count + 1:])
        self.wrong(self.paper + self.paper[:1])
        self.wrong(self.paper + [None])
        self.wrong(tuple(self.paper))
        self.wrong([])

    def test_an_entry_that_is_no_tuple_of_two(self):
        for k, (share, thing) in enumerate(self.paper):
            for entry in ([share, thing], (share,), (share, thing, []), (thing, share), (share, list(thing)), thing,
                          share, None, True, (), (share, thing[0]), (share, None), (None, thing), (1, thing), "ab"):
                self.wrong(self.with_entry(self.paper, k, entry))

    def test_a_share_of_0(self):
        for k, (share, thing) in enumerate(self.paper):
            for some in ([], [((), 0)], 0, None, [((), 1), ((), -1)]):
                self.wrong(self.with_entry(self.paper, k, (some, thing)))
                self.wrong(self.with_entry(self.paper, k, (some, tuple([] for _ in thing))))

    def test_polynomials_that_are_none(self):
        # Each means the same as what it stands for, but isn't told as point 6 tells it.
        def others(some):
            found = [tuple(some), some + [((), 0)], some + [((7,), 0)], [list(term) for term in some] + [[(), 0]],
                     None, some + [None], [some]]
            if len(some) > 1:
                found.append(some[::-1])
            for place, (powers, number) in enumerate(some):
                def put(*terms):
                    return some[:place] + list(terms) + some[place + 1:]

                found += [
                    put((powers, number - 1), (powers, 1)), put((powers + (0,), number)), put((list(powers), number)),
                    put((powers, number, 0)), put([powers, number]), put((powers, number), (powers, number)),
                    put((powers, number), (powers, 0)), put((powers + (0,) * (7 - len(powers)), number)),
                    put((powers + (0,) * (6 - len(powers)) + (1,), number)), put((powers,)), put(powers),
                    put((powers, str(number))), put((powers, None)), put((None, number)), put((powers, (number, 1))),
                ]
                if number == 1:
                    found.append(put((powers, True)))
                if powers and powers[-1] == 1:
                    found.append(put((powers[:-1] + (True,), number)))
                if len(powers) > 1 and powers[0] == 0:
                    found.append(put(((False,) + powers[1:], number)))
            return found

        seen = 0
        for k, (share, thing) in enumerate(self.paper):
            for other in others(share):
                self.wrong(self.with_entry(self.paper, k, (other, thing)))
            for place, some in enumerate(thing):
                for other in others(some):
                    seen += 1
                    self.wrong(self.with_thing(self.paper, k, place, other))
        self.assertGreater(seen, 150)

    def test_powers_below_0(self):
        share, thing = self.paper[2]
        self.assertEqual(thing, (free(0).told(), free(1).told(), ONE))
        wrong = ([((1,), 1)], ([((2,), 1)], [((1, 1), 1)], [((1,), 1)]))
        self.wrong(self.with_entry(self.paper, 2, wrong))
        self.wrong(self.with_entry(self.paper, 2, ([((-1,), 1)], wrong[1])))
        below = ([((1,), 1)], (ONE, [((-1, 1), 1)], [((-1,), 1)]))
        self.wrong(self.with_entry(self.paper, 2, below))
        self.no([FREE], ("same", 0, 0), always_by([below]))
        self.no([FREE], ("same", 0, 0), always_by([([((-1,), 1)], wrong[1])]))

    def test_a_tuple_of_another_kind(self):
        for k, (share, thing) in enumerate(self.paper):
            for other in (thing[:-1], thing + ([],), thing + (thing[-1],), thing[1:], (), thing + thing):
                self.wrong(self.with_entry(self.paper, k, (share, other)))
        # A circle has four, a curve six.
        steps = [O, P, Q, ("told", (2, 1), (3, 1)), FREE, ("round", 0, 1), ("five", 0, 1, 2, 3, 4)]
        paper = paper_of(steps)
        self.yes(steps, ("on", 1, 5), always_by(paper))
        for k in (5, 6):
            share, thing = paper[k]
            for other in (thing[:3], thing[:len(thing) - 1], thing[1:], thing + ([],), thing + thing[:2]):
                self.no(steps, ("on", 1, 5), always_by(self.with_entry(paper, k, (share, other))))

    def test_a_share_times_told_that_is_not_the_raw_rule(self):
        for steps in (SHARED, ALL_WORDS[:21], CURVES[:6]):
            paper = paper_of(steps)
            saying = ("same", 1, 1)
            self.yes(steps, saying, always_by(paper))
            for k, (share, thing) in enumerate(paper):
                for place, some in enumerate(thing):
                    for other in (poly_less([], some), poly_times(some, [((), 2)]), poly_less(some, ONE),
                                  poly_less(some, [((0, 1), 3)]), [], poly_times(some, [((1,), 1)])):
                        if other != some:
                            self.no(steps, saying, always_by(self.with_thing(paper, k, place, other)))
                for other in (poly_less([], share), poly_times(share, [((), 2)]), poly_times(share, [((1,), 1)])):
                    self.no(steps, saying, always_by(self.with_entry(paper, k, (other, thing))))
                if thing[0] != thing[1]:
                    swapped = (thing[1], thing[0]) + thing[2:]
                    self.no(steps, saying, always_by(self.with_entry(paper, k, (share, swapped))))

    def test_the_paper_of_another_drawing(self):
        others = [steps for steps in DRAWINGS if steps not in ([], [O], [FREE])]
        for steps in others:
            for other in others:
                if steps != other and steps != NOWHERE:
                    self.no(steps, ("same", 0, 0), always_by(paper_of(other)))

    def test_where_some_step_is_made_nowhere(self):
        for steps in (NONE, NOWHERE, [O, ("through", 0, 0)], [FREE, FREE, ("round", 1, 1), P]):
            for paper in (paper_of(steps), raw_paper(steps)):
                self.no(steps, ("same", 0, 0), always_by(paper))

    def test_junk(self):
        for some in JUNK + [deep(list, 5), deep(tuple, 6), deep(list, 3000), deep(tuple, 3000)]:
            self.wrong(some)
            self.no([O, O], ("same", 0, 1), always_by(some))
            for k in (0, 4):
                self.wrong(self.with_entry(self.paper, k, some))
                self.wrong(self.with_entry(self.paper, k, (some, self.paper[k][1])))
                for place in range(3):
                    if some != self.paper[k][1][place]:
                        self.wrong(self.with_thing(self.paper, k, place, some))

    def test_a_never_s_or_a_fails_paper(self):
        self.no(SHARED, self.saying, never_by(6, self.paper[:6]))
        self.no(SHARED, self.saying, fails_by(self.paper))


class WrongNever(Judging):
    SAYING = ("same", 0, 0)

    def setUp(self):
        self.paper = paper_of(NONE)[:4]
        self.yes(NONE, self.SAYING, never_by(4, self.paper))

    def test_a_step_that_is_none(self):
        for step in (-1, -3, 7, 8, 10**29, None, True, False, "4", (4,), [4], [], (4, 1), "", 4.0):
            self.no(NONE, self.SAYING, never_by(step, self.paper))
        for count in range(8):
            self.no(NONE, self.SAYING, never_by(-1, paper_of(NONE)[:count]))
            self.no(NONE, self.SAYING, never_by(count - 7, paper_of(NONE)[:count]))
        # True and False in the place of 1 and 0.
        steps = [O, ("through", 0, 0)]
        self.yes(steps, self.SAYING, never_by(1, paper_of(steps)[:1]))
        self.no(steps, self.SAYING, never_by(True, paper_of(steps)[:1]))
        self.no([O], self.SAYING, never_by(False, []))

    def test_a_step_that_is_made_somewhere(self):
        for step in (0, 1, 2, 3):
            self.no(NONE, self.SAYING, never_by(step, self.paper[:step]))
            self.no(NONE, self.SAYING, never_by(step, self.paper))
        for steps in (ALL_WORDS, CURVES, SIX_FREE):
            paper = paper_of(steps)
            for step in range(len(steps)):
                self.no(steps, self.SAYING, never_by(step, paper[:step]))
            # A step behind the last one.
            self.no(steps, self.SAYING, never_by(len(steps), paper))
            self.no(steps, self.SAYING, never_by(len(steps) + 1, paper + paper[:1]))

    def test_a_step_without_musts(self):
        # All of its polynomials are 0, but it has no musts.
        steps = [FREE, ("through", 0, 0), ("side", 0, 1), ("foot", 0, 1)]
        paper = paper_of(steps)
        self.yes(steps, self.SAYING, never_by(1, paper[:1]))
        self.no(steps, self.SAYING, never_by(2, paper[:2]))
        self.no(steps, self.SAYING, never_by(3, paper[:3]))

    def test_a_step_behind_an_earlier_one_that_is_made_nowhere(self):
        self.no(NONE, self.SAYING, never_by(5, paper_of(NONE)[:5]))
        self.no(NONE, self.SAYING, never_by(6, paper_of(NONE)[:6]))
        paper = paper_of(NOWHERE)
        for step in range(len(NOWHERE)):
            self.assertIs(judge(NOWHERE, self.SAYING, never_by(step, paper[:step])), step == 2)

    def test_the_paper_of_all_steps(self):
        for count in range(len(NONE) + 1):
            self.assertIs(judge(NONE, self.SAYING, never_by(4, paper_of(NONE)[:count])), count == 4)

    def test_a_wrong_paper(self):
        for k, (share, thing) in enumerate(self.paper):
            for place, some in enumerate(thing):
                for other in (poly_less(some, ONE), tuple(some), some + [((), 0)], None):
                    self.no(NONE, self.SAYING, never_by(4, self.with_thing(self.paper, k, place, other)))
            for entry in ((share,), [share, thing], (share, thing, ()), ([], thing), None):
                self.no(NONE, self.SAYING, never_by(4, self.with_entry(self.paper, k, entry)))

    def test_junk(self):
        for some in JUNK + [deep(list, 3000), deep(tuple, 3000)]:
            self.no(NONE, self.SAYING, never_by(some, self.paper))
            self.no(NONE, self.SAYING, never_by(4, some))
            self.no(NONE, self.SAYING, never_by(some, some))
            self.no(NONE, self.SAYING, never_by(4, self.with_entry(self.paper, 1, some)))
            self.no([O, O, ("through", 1, 1)], self.SAYING, never_by(2, some))

    def test_that_it_is_never_does_not_let_the_others_by(self):
        self.no(NONE, self.SAYING, always_by(self.paper))
        self.no(NONE, self.SAYING, fails_by([(1, 1), (2, 1)]))
        self.no(NONE, ("same", 0, 1), fails_by([(1, 1), (2, 1)]))


class WrongFails(Judging):
    STEPS = [FREE, O, ("through", 0, 1)]
    SAYING = ("on", 1, 2)

    def test_at_which_a_step_is_not_made_or_the_saying_holds(self):
        steps = [FREE, O, ("through", 0, 1), P]
        for place, due in (
            ([(0, 1), (0, 1)], False), ([(1, 1), (0, 1)], False), ([(-3, 2), (0, 1)], False), ([(1, 1), (1, 1)], True),
            ([(0, 1), (1, 9)], True),
        ):
            self.assertIs(judge(steps, ("on", 3, 2), fails_by(place)), due)
        self.no(self.STEPS, self.SAYING, fails_by([(1, 1), (1, 1)]))

    def test_each_place_as_holds_at_tells(self):
        steps = [FREE, O, P, ("round", 1, 2)]
        for x in range(-2, 3):
            for y in range(-2, 3):
                place = [(x, 1), (y, 1)]
                due = holds_at(steps, ("on", 0, 3), place)
                self.assertIs(due, x * x + y * y == 1)
                self.assertIs(judge(steps, ("on", 0, 3), fails_by(place)), not due)

    def test_wrong_places(self):
        steps, saying = [FREE, O], ("same", 0, 1)
        one = (1, 2)
        self.yes(steps, saying, fails_by([one, one]))
        for place in ([], [one], [one] * 3, (one, one), [one, (2, 4)], [one, (1, 0)], [one, (1, -2)], [one, [1, 2]],
                      [one, 1], [one, None], [one, (True, 2)], [one, (3, True)], [one, (1, 2, 3)], [one, (1,)],
                      [one, ((1, 2), 1)], [one, "1/2"], [(0, 3), one], [(False, 1), one], "12", None, 12, one):
            self.no(steps, saying, fails_by(place))

    def test_junk(self):
        for some in JUNK + [deep(list, 3000), deep(tuple, 3000)]:
            self.no([FREE, O], ("same", 0, 1), fails_by(some))
            self.no([FREE, O], ("same", 0, 1), fails_by([(1, 2), some]))
            if some != []:
                self.no([O, P], ("same", 0, 1), fails_by(some))
        self.yes([O, P], ("same", 0, 1), fails_by([]))

    def test_a_drawing_that_is_made_nowhere(self):
        for place in ([(1, 1), (2, 1)], [(0, 1), (0, 1)]):
            self.no(NONE, ("same", 0, 1), fails_by(place))

    def test_long_numbers(self):
        self.yes([FREE, O], ("same", 0, 1), fails_by([(10**300, 1), (1, 10**301)]))


class Refusals(Judging):
    def test_ahead_of_all_that_hangs_on_the_answer(self):
        parts = [O] + [("part", k, k, (1, 2)) for k in range(5)] + [("part", 5, 3, (1, 2))]
        found = [always_by(None), never_by(None, None), fails_by(None), always_by(paper_of(MIDDLE)), fails_by([])]
        for steps, saying, refusal, step in (
            ([O] * 25, HELD, TooMany, None), ([None], HELD, BadStep, 0), (MIDDLE, None, BadSaying, None),
            (MIDDLE, ("inline", 0, 1), BadSaying, None), (MIDDLE, ("inline", 0, 1, True), BadSaying, None),
            (MIDDLE, ("inline", 0, 1, 3), BadThing, 5), (MIDDLE, ("on", 0, 9), BadThing, 5), ([], HELD, BadThing, 0),
            (parts, ("far", 6, 6, 6, 6), TooDeep, 7),
        ):
            for one in found:
                with self.assertRaises(DrawError) as caught:
                    judge(steps, saying, one)
                self.assertIs(caught.exception.__class__, refusal)
                self.assertEqual(getattr(caught.exception, "step", None), step)
                self.assertIs(judge(MIDDLE, HELD, always_by(paper_of(MIDDLE))), True)


class TheAskersOwn(Judging):
    def test_the_classes(self):
        for found, kind, word in (
            (always_by([]), Always, "always"), (never_by(0, []), Never, "never"), (fails_by([]), Fails, "fails"),
        ):
            self.assertIs(found.__class__, kind)
            self.assertIsInstance(found, Answer)
            self.assertEqual(found.word(), word)

    def test_the_fields_are_what_was_handed_in(self):
        for some in JUNK + [paper_of(MIDDLE), paper_of(ALL_WORDS), deep(list, 6)]:
            self.assertEqual(always_by(some).paper, some)
            self.assertIs(always_by(some).paper.__class__, some.__class__)
            self.assertEqual(vars(never_by(some, some)), {"step": some, "paper": some})
            self.assertEqual(fails_by(some).place, some)

    def test_an_answer_stays_as_it_was_made(self):
        place = [(1, 2)] * 4
        for make, handed, steps, saying in (
            (always_by, [paper_of(MIDDLE)], MIDDLE, HELD),
            (never_by, [4, paper_of(NONE)[:4]], NONE, ("inline", 0, 0, 0)),
            (fails_by, [place[:3] + [(3, 1)]], MIDDLE, NOT_HELD),
        ):
            found = make(*handed)
            before = deepcopy(vars(found))
            self.yes(steps, saying, found)
            own = {id(one) for one in lists_in(list(vars(found).values()))}
            self.assertFalse(own & {id(one) for one in lists_in(handed)})
            spoil(handed)
            self.assertEqual(vars(found), before)
            self.yes(steps, saying, found)
            self.yes(steps, saying, found)

    def test_what_is_handed_in_stays(self):
        asked = ((MIDDLE, HELD), (MIDDLE, NOT_HELD), (NONE, ("same", 0, 0)), (SLIDES, ("inline", 0, 1, 2)))
        for steps, saying in asked:
            found = answer_of(steps, saying)
            before = deepcopy(vars(found))
            check_own(self, lambda mine, some: judge(mine, some, found), [steps, saying])
            self.assertEqual(vars(found), before)


if __name__ == "__main__":
    unittest.main()

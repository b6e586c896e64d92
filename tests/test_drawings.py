"""Points 12, 13 and 14: drawings, their papers and their refusals; and points 2 and 4, as far as they speak of them."""

import random
import unittest
from copy import deepcopy
from math import comb, gcd

import plain as by_hand
from everydraw.drawings import freedoms_of, kinds_of, look_at, musts_of, paper_of, weights_of
from everydraw.errors import BadKnown, BadStep, BadThing, TooDeep, TooFree, TooMany
from everydraw.exact import drawn_at, first_made, undone_at
from examples import ALL_WORDS, DRAWINGS, FREE, NOWHERE, O, P, PARTS, Q
from plain import ENTRIES, KINDS, NAMED, check_form, check_own, free, on_bent, on_line, plain, plains


def asked_of_a_drawing():
    return [
        look_at, kinds_of, weights_of, freedoms_of, paper_of,
        lambda steps: musts_of(steps, []), lambda steps: drawn_at(steps, None), lambda steps: undone_at(steps, None),
        lambda steps: first_made(steps, 2),
    ]


def check_refused(case, steps, step, refusal, by_look_at_alone=False):
    """That each function refuses the drawing with just this class at just this step, and changes nothing."""
    before = deepcopy(steps)
    for ask in [look_at] if by_look_at_alone else asked_of_a_drawing():
        with case.assertRaises(refusal) as caught:
            ask(steps)
        case.assertIs(caught.exception.__class__, refusal)
        if refusal is not TooMany:
            case.assertEqual(caught.exception.step, step)
    case.assertEqual(steps, before)


# Point 14 by hand: the class and the step of the refusal that is due, or None.

def is_number(some):
    return some.__class__ is int


def good_fraction(some):
    if some.__class__ is not tuple or len(some) != 2 or not all(is_number(one) for one in some):
        return False
    top, bottom = some
    return 1 <= bottom <= 999999 and -999999 <= top <= 999999 and gcd(top, bottom) == 1


def has_form(step):
    if step.__class__ is not tuple or not step or step[0].__class__ is not str or step[0] not in ENTRIES:
        return False
    due = ENTRIES[step[0]]
    return len(step) == len(due) + 1 and all(
        good_fraction(entry) if one == "f" else is_number(entry) for entry, one in zip(step[1:], due)
    )


def raw_things(steps):
    """The things' polynomials with all shares 1."""
    things = []
    for step, frees in zip(steps, by_hand.frees_of(steps)):
        things.append(plains(by_hand.raw_by(step, things, [free(k) for k in frees])))
    return things


def is_known(steps, step):
    if step[0] not in ("again", "touch", "roll"):
        return True
    things = raw_things(steps)
    point = things[step[-1]]
    if step[0] == "again" and on_line(point, things[step[2]]) != plain(0):
        return False
    return on_bent(point, things[step[1]]) == plain(0)


def due_refusal(steps):
    if len(steps) > 24:
        return TooMany, None
    for k, step in enumerate(steps):
        if not has_form(step):
            return BadStep, k
        kinds = [KINDS[one[0]] for one in steps[:k]]
        for entry, one in zip(step[1:], ENTRIES[step[0]]):
            if one != "f" and not (0 <= entry < k and kinds[entry] in NAMED[one]):
                return BadThing, k
        count = sum(by_hand.BRINGS.get(one[0], 0) for one in steps[:k + 1])
        if count > 6:
            return TooFree, k
        most = max(by_hand.weights_by(steps[:k + 1])[k])
        if comb(count + most, count) > 1000 or max(by_hand.weights_by(steps[:k + 1], True)[k]) > 40:
            return TooDeep, k
        if not is_known(steps[:k], step):
            return BadKnown, k
    return None, None


class Words(unittest.TestCase):
    """Point 12."""

    def test_all_twenty_words_stand_in_the_drawings(self):
        self.assertEqual({step[0] for step in ALL_WORDS}, set(ENTRIES))
        self.assertEqual(len(ENTRIES), 20)

    def test_kinds(self):
        self.assertEqual(kinds_of([]), [])
        for steps in DRAWINGS:
            self.assertEqual(kinds_of(steps), [KINDS[step[0]] for step in steps])
        self.assertEqual(
            kinds_of([FREE, FREE, ("through", 0, 1), ("round", 0, 1)]), ["point", "point", "line", "circle"]
        )

    def test_how_many_free_numbers(self):
        self.assertEqual([freedoms_of(steps) for steps in DRAWINGS], [0, 2, 0, 4, 3, 6, 2, 4, 5])
        for step, count in ((("slide", 1, 2), 1), (("roll", 3, 2), 1), (FREE, 2), (("part", 1, 2, (1, 2)), 0)):
            steps = [FREE, O, P, ("round", 1, 2), step]
            self.assertEqual(freedoms_of(steps), 2 + count)

    def test_free_numbers_are_numbered_as_steps_bring_them(self):
        steps = [O, P, FREE, ("slide", 0, 1), FREE, ("round", 0, 1), ("roll", 5, 1)]
        self.assertEqual(freedoms_of(steps), 6)
        things = [thing for _, thing in paper_of(steps)]
        self.assertEqual(things[2], ([((1,), 1)], [((0, 1), 1)], [((), 1)]))
        self.assertEqual(things[3], ([((0, 0, 1), 1)], [], [((), 1)]))
        self.assertEqual(things[4], ([((0, 0, 0, 1), 1)], [((0, 0, 0, 0, 1), 1)], [((), 1)]))
        # G is 1 + t t, H is - 2 t Q + .. of the line - t, 1, 0 at the point (1, 0) of the circle around (0, 0).
        x, y, w = plains(things[6])
        t = free(5)
        self.assertEqual(x * (1 + t * t), w * (t * t - 1))
        self.assertEqual(y * (1 + t * t), w * (-2 * t))

    def test_weights_by_the_raw_rule(self):
        for steps in DRAWINGS:
            self.assertEqual(weights_of(steps), by_hand.weights_by(steps))

    def test_weights_of_each_word_told_out(self):
        self.assertEqual(weights_of([FREE]), [(1, 1, 0)])
        self.assertEqual(weights_of([("told", (1, 2), (3, 4))]), [(0, 0, 0)])
        self.assertEqual(weights_of([O]), [(0, 0, 0)])
        line = [FREE, FREE, ("through", 0, 1)]
        self.assertEqual(weights_of(line)[2], (1, 1, 2))
        for step, due in (
            (("slide", 0, 1), (2, 2, 0)), (("part", 0, 1, (0, 1)), (1, 1, 0)), (("foot", 0, 2), (3, 3, 2)),
            (("mirrored", 0, 2), (3, 3, 2)), (("side", 0, 2), (1, 1, 2)), (("square", 0, 2), (1, 1, 2)),
            (("meet", 2, 2), (3, 3, 2)), (("round", 0, 1), (0, 1, 1, 2)), (("round3", 0, 1, 1), (2, 3, 3, 4)),
            (("through", 0, 0), (1, 1, 2)),
        ):
            self.assertEqual(weights_of(line + [step])[3], due, step)
        round1 = line + [("round", 0, 1)]
        for step, due in (
            (("centre", 3), (1, 1, 0)), (("polar", 3, 1), (1, 1, 2)), (("touch", 3, 1), (1, 1, 2)),
            (("axis", 3, 3), (1, 1, 2)), (("mirroredround", 3, 2), (2, 3, 3, 4)), (("again", 3, 2, 1), (3, 3, 2)),
            (("roll", 3, 1), (3, 3, 2)),
        ):
            self.assertEqual(weights_of(round1 + [step])[4], due, step)
        five = [O, P, Q, ("told", (2, 1), (3, 1)), ("told", (3, 1), (5, 1)), ("five", 0, 1, 2, 3, 4)]
        self.assertEqual(weights_of(five)[5], (0, 0, 0, 0, 0, 0))
        five = [FREE] + five[1:5] + [("five", 0, 1, 2, 3, 4)]
        self.assertEqual(weights_of(five)[5], (2, 2, 2, 2, 2, 2))
        self.assertEqual(weights_of(five + [("centre", 5), ("polar", 5, 0), ("roll", 5, 0)])[6:], [
            (4, 4, 4), (3, 3, 3), (5, 5, 4),
        ])

    def test_the_things_have_no_powers_of_more_weight(self):
        for steps in DRAWINGS:
            for weights, (_, thing) in zip(weights_of(steps), paper_of(steps)):
                for most, some in zip(weights, thing):
                    self.assertTrue(all(sum(powers) <= most for powers, _ in some))


class Papers(unittest.TestCase):
    """Point 13."""

    def check_paper(self, steps, paper):
        self.assertIs(paper.__class__, list)
        self.assertEqual(len(paper), len(steps))
        things = []
        for step, frees, entry in zip(steps, by_hand.frees_of(steps), paper):
            self.assertIs(entry.__class__, tuple)
            share, thing = entry
            check_form(self, share)
            self.assertNotEqual(share, [])
            self.assertIs(thing.__class__, tuple)
            raw = by_hand.raw_by(step, things, [free(k) for k in frees])
            self.assertEqual(len(thing), len(raw))
            for some, due in zip(thing, raw):
                check_form(self, some)
                self.assertEqual(plain(share) * plain(some), plain(due), step)
            things.append(plains(thing))

    def test_of_each_drawing(self):
        self.assertEqual(paper_of([]), [])
        for steps in DRAWINGS:
            self.check_paper(steps, paper_of(steps))

    def test_of_told_points_of_six_figures(self):
        steps = [
            ("told", (999999, 999998), (-999999, 999997)), ("told", (-1, 999999), (999998, 999999)), Q,
            ("round3", 0, 1, 2), ("through", 0, 1), ("mirroredround", 3, 4), ("centre", 5), ("again", 3, 4, 0),
        ]
        self.check_paper(steps, paper_of(steps))

    def test_musts(self):
        for steps in DRAWINGS:
            paper = paper_of(steps)
            told = musts_of(steps, paper)
            self.assertEqual(len(told), len(steps))
            things = [plains(thing) for _, thing in paper]
            for step, frees, musts in zip(steps, by_hand.frees_of(steps), told):
                raw = by_hand.raw_by(step, things, [free(k) for k in frees])
                self.assertEqual(musts, [plain(one).told() for one in by_hand.musts_by(step, things, raw)], step)
                for some in musts:
                    check_form(self, some)

    def test_how_many_musts_each_word_has(self):
        counts = {
            "through": 2, "polar": 2, "touch": 2, "axis": 2, "meet": 1, "centre": 1, "again": 1, "roll": 1, "round3": 1,
            "round": 2, "five": 6,
        }
        for step, musts in zip(ALL_WORDS, musts_of(ALL_WORDS, paper_of(ALL_WORDS))):
            self.assertEqual(len(musts), counts.get(step[0], 0), step)

    def test_musts_by_another_paper(self):
        # Shares of the other sign, and one with free numbers in it: that of a part of one point and itself.
        steps = [FREE, O, ("through", 0, 1), ("foot", 0, 2), ("part", 3, 3, (1, 2)), ("through", 4, 1), ("meet", 2, 2)]
        free_one = [-free(0), -free(1), plain(-1)]
        line = [-some for some in plains(by_hand.through_raw(free_one, (0, 0, 1)))]
        foot = plains(by_hand.foot_raw(free_one, line))
        last = plains(by_hand.through_raw(foot, (0, 0, 1)))
        paper = [
            (plain(-1), free_one), (plain(1), (0, 0, 1)), (plain(-1), line), (plain(1), foot), (2 * foot[2], foot),
            (plain(1), last), (free(1), (0, 0, 0)),
        ]
        paper = [(share.told(), by_hand.told(thing)) for share, thing in paper]
        self.check_paper(steps, paper)
        check_own(self, musts_of, [steps, paper])
        self.assertEqual(musts_of(steps, paper), [
            [], [], [(-line[0]).told(), (-line[1]).told()], [], [], [last[0].told(), last[1].told()], [[]],
        ])

    def test_steps_made_at_no_place(self):
        musts = musts_of(NOWHERE, paper_of(NOWHERE))
        nowhere = [k for k, some in enumerate(musts) if some and not any(some)]
        self.assertEqual(nowhere, [2, 3, 4, 5, 8, 9, 10, 11, 12, 13, 17])

    def test_numbers_of_parts_stay_short(self):
        # Without shares the last numbers would have more than a hundred thousand figures.
        longest = max(abs(number) for _, thing in paper_of(PARTS) for some in thing for _, number in some)
        self.assertLess(longest, 10**400)


class Refusals(unittest.TestCase):
    """Point 14."""

    def refused(self, steps, step, refusal, by_look_at_alone=False):
        self.assertEqual(due_refusal(steps), (refusal, step))
        check_refused(self, steps, step, refusal, by_look_at_alone)

    def allowed(self, steps):
        self.assertEqual(due_refusal(steps), (None, None))
        self.assertIsNone(look_at(steps))

    def test_what_is_not_refused(self):
        for steps in DRAWINGS:
            self.allowed(steps)

    def test_too_many(self):
        self.allowed([O] * 24)
        self.refused([O] * 25, None, TooMany)
        self.refused([O] * 200, None, TooMany)
        # Ahead of all else, whatever the steps are.
        self.refused([("nothing",)] * 25, None, TooMany)
        self.refused([FREE] * 25, None, TooMany)
        self.refused([("through", 7, 8)] + [O] * 24, None, TooMany)

    def test_bad_step_no_tuple(self):
        for step in (None, 5, "free", ["free"], (), [], True, {"free": 1}, (None,), (5,), (["free"],), (("free",),)):
            self.refused([step], 0, BadStep)
            self.refused([FREE, O, step, O], 2, BadStep)

    def test_bad_step_no_word(self):
        for word in ("", "Free", "free ", "point", "line", "inline", "on", "round4", "mirroredRound"):
            self.refused([(word,)], 0, BadStep)
            self.refused([O, P, (word, 0, 1)], 2, BadStep)

    def test_bad_step_too_few_or_too_many_entries(self):
        for k, step in enumerate(ALL_WORDS):
            self.refused(ALL_WORDS[:k] + [step + (0,)], k, BadStep)
            self.refused(ALL_WORDS[:k] + [step + ((1, 2),)], k, BadStep)
            if len(step) > 1:
                self.refused(ALL_WORDS[:k] + [step[:-1]], k, BadStep)
                self.refused(ALL_WORDS[:k] + [step[:1]], k, BadStep)

    def test_bad_step_entries_of_another_kind(self):
        for k, step in enumerate(ALL_WORDS):
            for place in range(1, len(step)):
                for wrong in (True, False, None, "0", "point", (), [0], (0,), [1, 2], (1, 2, 3), 1.0):
                    steps = ALL_WORDS[:k] + [step[:place] + (wrong,) + step[place + 1:]]
                    self.refused(steps, k, BadStep, wrong is not True)
                other = 0 if isinstance(step[place], tuple) else (1, 2)
                self.refused(ALL_WORDS[:k] + [step[:place] + (other,) + step[place + 1:]], k, BadStep)

    def test_bad_step_fractions(self):
        wrong = [
            (2, 4), (0, 2), (-3, 6), (1, 0), (0, 0), (1, -1), (-1, -2), (0, -1), (1000000, 1), (-1000000, 1),
            (1, 1000000), (1000000, 999999), (10**30, 1), (True, 1), (1, True), ("1", "2"), (1, None), (1.0, 2),
            [1, 2], (1,), (1, 2, 1), 1,
        ]
        for f in wrong:
            self.refused([("told", f, (0, 1))], 0, BadStep)
            self.refused([("told", (0, 1), f)], 0, BadStep)
            self.refused([O, P, ("part", 0, 1, f)], 2, BadStep)
        for f in ((0, 1), (999999, 1), (-999999, 1), (1, 999999), (-999998, 999999), (999999, 999998)):
            self.allowed([("told", f, (0, 1)), ("told", (0, 1), f), ("part", 0, 1, f)])

    def test_bad_thing(self):
        for k, step in enumerate(ALL_WORDS):
            due = ENTRIES[step[0]]
            for place, one in enumerate(due, start=1):
                if one != "f":
                    wrong = [-1, -k, -k - 1, k, k + 1, 24, 10**30, -10**30]
                    wrong += [other for other in range(k) if KINDS[ALL_WORDS[other][0]] not in NAMED[one]]
                    for number in wrong:
                        steps = ALL_WORDS[:k] + [step[:place] + (number,) + step[place + 1:]]
                        self.refused(steps, k, BadThing, number != wrong[0])

    def test_bad_thing_of_each_other_kind(self):
        # A point, a line, a circle and a curve, so that each entry can name one of each kind.
        things = [O, P, Q, ("told", (2, 1), (3, 1)), ("told", (3, 1), (5, 1)), ("through", 0, 1), ("round3", 0, 1, 2),
                  ("five", 0, 1, 2, 3, 4)]
        number = {"p": 1, "l": 5, "o": 6, "v": 7, "f": (1, 2)}
        for word, due in ENTRIES.items():
            right = (word,) + tuple(number[one] for one in due)
            self.allowed(things + [right])
            for place, one in enumerate(due, start=1):
                for other in range(8):
                    if one != "f" and KINDS[things[other][0]] not in NAMED[one]:
                        wrong = right[:place] + (other,) + right[place + 1:]
                        self.refused(things + [wrong], 8, BadThing, True)

    def test_bad_thing_of_a_later_step(self):
        self.refused([O, ("through", 0, 2), P], 1, BadThing)
        self.refused([("through", 0, 1), O, P], 0, BadThing)
        self.refused([O, ("through", 0, 1)], 1, BadThing)

    def test_too_free(self):
        self.allowed([FREE, FREE, FREE])
        self.refused([FREE, FREE, FREE, FREE], 3, TooFree)
        self.refused([FREE, FREE, FREE, ("slide", 0, 1)], 3, TooFree)
        five = [FREE, FREE, ("slide", 0, 1)]
        self.allowed(five)
        self.refused(five + [FREE], 3, TooFree)
        self.allowed(five + [("slide", 0, 1)])
        self.refused(five + [("slide", 0, 1), ("slide", 0, 1)], 4, TooFree)
        rolls = [FREE, FREE, ("round", 0, 1), ("roll", 2, 1), ("roll", 2, 1)]
        self.allowed(rolls)
        self.refused(rolls + [("roll", 2, 1)], 5, TooFree)
        self.refused(rolls + [("slide", 0, 1)], 5, TooFree)
        self.refused(rolls + [FREE], 5, TooFree)

    def test_too_deep_by_the_count_of_powers(self):
        # With n free numbers the greatest weight that is allowed: 3 with 16 (969), 4 with 9 (715; 10 has 1001),
        # 5 with 7 (792), 6 with 6 (924). A slide adds 1, a slide from itself on the weights twice and 1 more.
        for count, most in ((3, 16), (4, 9), (5, 7), (6, 6)):
            self.assertLessEqual(comb(count + most, count), 1000)
            self.assertGreater(comb(count + most + 1, count), 1000)
        self.assertEqual(comb(14, 4), 1001)
        for count in (3, 4, 5, 6):
            self.grow_to_the_edge(count, {3: 16, 4: 9, 5: 7, 6: 6}[count])

    def start(self, count):
        return {
            3: [FREE, O, ("slide", 1, 0)], 4: [FREE, FREE, O], 5: [FREE, FREE, ("slide", 0, 1)], 6: [FREE, FREE, FREE],
        }[count]

    def grow_to_the_edge(self, count, most):
        """Points of each weight, by feet, parts and lines, up to the greatest one and just beyond it."""
        steps = self.start(count) + [("through", 0, 1), ("foot", 0, 3), ("through", 4, 0)]
        self.assertEqual(freedoms_of(steps), count)
        seen = []
        chance = random.Random(count)
        for _ in range(400):
            kinds = kinds_of(steps)
            points = [k for k, kind in enumerate(kinds) if kind == "point"]
            lines = [k for k, kind in enumerate(kinds) if kind == "line"]
            step = chance.choice([
                ("part", chance.choice(points), chance.choice(points), (1, 2)),
                ("through", chance.choice(points), chance.choice(points)),
                ("foot", chance.choice(points), chance.choice(lines)),
                ("side", chance.choice(points), chance.choice(lines)),
            ])
            weight = max(by_hand.weights_by(steps + [step])[-1])
            seen.append(weight)
            if weight > most:
                if weight == most + 1:
                    self.refused(steps + [step], len(steps), TooDeep)
            else:
                self.allowed(steps + [step])
                if len(steps) < 22 and weight not in [max(one) for one in weights_of(steps)]:
                    steps.append(step)
        self.assertIn(most, seen)
        self.assertIn(most + 1, seen)

    def test_too_deep_by_sizes(self):
        # A part has the sizes of both points added up.
        steps = [O, P] + [("part", k, k, (1, 2)) for k in range(1, 6)]
        self.assertEqual([max(one) for one in by_hand.weights_by(steps, True)], [1, 1, 2, 4, 8, 16, 32])
        self.allowed(steps + [("part", 6, 4, (1, 2))])
        self.refused(steps + [("part", 6, 4, (1, 2)), ("part", 7, 0, (1, 2))], 8, TooDeep)
        self.refused(steps + [("part", 6, 5, (1, 2))], 7, TooDeep)
        self.refused(steps + [("part", 0, 1, (1, 2)), ("part", 4, 7, (1, 2)), ("part", 6, 8, (1, 2))], 9, TooDeep)
        self.assertEqual(max(max(one) for one in weights_of(steps)), 0)
        # 32 and 8 are 40; with a point of 9 it is 41.
        nine = steps + [("part", 4, 0, (1, 2))]
        self.assertEqual(max(by_hand.weights_by(nine, True)[-1]), 9)
        self.refused(nine + [("part", 7, 6, (0, 1))], 8, TooDeep)

    def test_sizes_with_free_numbers(self):
        # With one or two free numbers the sizes are what bounds a drawing.
        steps = [FREE, O, ("through", 0, 1), ("foot", 0, 2), ("foot", 3, 2), ("foot", 4, 2), ("through", 5, 4)]
        for most in range(3, 9):
            chance = random.Random(most)
            for _ in range(60):
                first, second = chance.choice([0, 1, 3, 4, 5]), chance.choice([2, 6])
                step = chance.choice([("mirrored", first, second), ("square", first, second), ("through", first, 5)])
                more = steps + [step, ("part", 5, 4, (1, 3)), ("part", 8, 5, (1, 3))]
                refusal, at = due_refusal(more)
                if refusal is None:
                    self.allowed(more)
                else:
                    self.refused(more, at, refusal)

    def test_bad_known_again(self):
        # Point 4 lies on the line alone, 1 on the circle alone, 0 on both.
        steps = [FREE, FREE, P, ("through", 0, 2), ("part", 0, 2, (1, 3)), ("round3", 0, 1, 2)]
        self.allowed(steps + [("again", 5, 3, 0)])
        self.allowed(steps + [("again", 5, 3, 2)])
        self.refused(steps + [("again", 5, 3, 4)], 6, BadKnown)
        self.refused(steps + [("again", 5, 3, 1)], 6, BadKnown)
        self.refused(steps + [("centre", 5), ("again", 5, 3, 6)], 7, BadKnown)

    def test_bad_known_again_of_a_curve(self):
        steps = [FREE, O, P, Q, ("told", (2, 1), (3, 1)), ("five", 0, 1, 2, 3, 4), ("through", 0, 1), ("slide", 0, 1)]
        for point, due in ((0, None), (1, None), (2, BadKnown), (3, BadKnown), (7, BadKnown)):
            if due is None:
                self.allowed(steps + [("again", 5, 6, point)])
            else:
                self.refused(steps + [("again", 5, 6, point)], 8, due)

    def test_bad_known_touch_and_roll(self):
        steps = [FREE, FREE, P, ("round", 0, 1), ("round3", 0, 1, 2), ("through", 0, 1)]
        for word in ("touch", "roll"):
            self.allowed(steps + [(word, 3, 1)])
            for point in (0, 1, 2):
                self.allowed(steps + [(word, 4, point)])
            self.refused(steps + [(word, 3, 0)], 6, BadKnown)
            self.refused(steps + [(word, 3, 2)], 6, BadKnown)
            # What came of a second meet, a mirroring or a part through the centre is known, too.
            self.allowed(steps + [("again", 3, 5, 1), (word, 3, 6)])
            self.allowed(steps + [("part", 1, 0, (2, 1)), (word, 3, 6)])
            self.allowed(steps + [("mirrored", 1, 5), (word, 3, 6)])
            self.refused(steps + [("part", 1, 0, (3, 1)), (word, 3, 6)], 7, BadKnown)

    def test_known_of_what_is_made_nowhere(self):
        # The line and the circle are all 0, and so is each point's worth in them.
        steps = [FREE, FREE, ("through", 0, 0), ("round3", 0, 0, 1)]
        self.allowed(steps + [("again", 3, 2, 1)])
        self.allowed(steps + [("roll", 3, 0)])
        self.refused([FREE, FREE, ("through", 0, 0), ("round", 0, 1), ("again", 3, 2, 0)], 4, BadKnown)

    def test_known_where_it_hangs_on_the_place(self):
        # A point of the told circle at some places of the free number alone.
        steps = [O, P, Q, ("round", 0, 1), ("slide", 1, 2), ("slide", 0, 1)]
        for word in ("touch", "roll"):
            self.refused(steps + [(word, 3, 4)], 6, BadKnown)
            self.refused(steps + [(word, 3, 5)], 6, BadKnown)
            self.allowed(steps + [(word, 3, 2)])

    def test_the_order_of_refusals_of_one_step(self):
        # BadStep ahead of BadThing.
        self.refused([O, ("part", 7, 8, (2, 4))], 1, BadStep)
        self.refused([O, ("through", 7, True)], 1, BadStep)
        # BadThing ahead of TooFree.
        full = [FREE, FREE, FREE, ("through", 0, 1)]
        self.refused(full + [("slide", 0, 3)], 4, BadThing)
        self.refused(full + [("roll", 0, 1)], 4, BadThing)
        # TooFree ahead of TooDeep, with weights far above 6, and of BadKnown.
        round1 = [FREE, FREE, FREE, ("round", 0, 1), ("through", 0, 1), ("foot", 2, 4), ("foot", 2, 4)]
        self.refused(round1 + [("slide", 5, 6)], 7, TooFree)
        self.refused(round1 + [("roll", 3, 0)], 7, TooFree)
        self.allowed(round1)
        # TooDeep ahead of BadKnown.
        deep = [FREE, FREE, FREE, ("round3", 0, 1, 2), ("through", 0, 1), ("foot", 2, 4)]
        self.refused(deep + [("again", 3, 4, 5)], 6, TooDeep)
        self.refused(deep + [("again", 3, 4, 2)], 6, BadKnown)
        self.refused(deep[:5] + [("touch", 3, 0), ("part", 0, 1, (1, 2)), ("touch", 3, 6)], 7, BadKnown)

    def test_the_first_step_that_is_not_as_told(self):
        known = [FREE, FREE, ("round", 0, 1), ("touch", 2, 0)]
        self.refused(known + [("nothing",)], 3, BadKnown)
        self.refused(known + [("through", 9, 9)], 3, BadKnown)
        self.refused([FREE, FREE, FREE, FREE, None], 3, TooFree)
        self.refused([O, ("through", 0, 1), None, FREE, FREE, FREE, FREE], 1, BadThing)
        self.refused([O, None, ("through", 0, 9)], 1, BadStep)

    def test_chance_drawings(self):
        chance = random.Random(12)
        found = {}
        for _ in range(1500):
            steps = [chance.choice([FREE, FREE, O, P, Q]) for _ in range(chance.randint(1, 4))]
            for _ in range(chance.randint(1, 7)):
                word = chance.choice(list(ENTRIES))
                entries = []
                for one in ENTRIES[word]:
                    fitting = [k for k, step in enumerate(steps) if one != "f" and KINDS[step[0]] in NAMED[one]]
                    if one == "f":
                        entries.append(chance.choice([(1, 2), (-2, 3), (0, 1), (2, 1)]))
                    elif fitting and chance.random() < 0.99:
                        entries.append(chance.choice(fitting))
                    else:
                        entries.append(chance.randint(-1, len(steps)))
                steps.append((word,) + tuple(entries))
                refusal, at = due_refusal(steps)
                found[refusal] = found.get(refusal, 0) + 1
                if refusal is None:
                    self.assertIsNone(look_at(steps))
                    self.assertEqual(weights_of(steps), by_hand.weights_by(steps))
                else:
                    with self.assertRaises(refusal) as caught:
                        look_at(steps)
                    self.assertIs(caught.exception.__class__, refusal)
                    self.assertEqual(caught.exception.step, at)
                    steps.pop()
        for refusal in (None, BadThing, TooFree, TooDeep, BadKnown):
            self.assertGreater(found.get(refusal, 0), 15, refusal)


class TheAskersOwn(unittest.TestCase):
    """Points 2 and 4."""

    def test_look_at_tells_none(self):
        for steps in DRAWINGS:
            self.assertIsNone(look_at(steps))

    def test_what_is_handed_in_and_what_is_told(self):
        for steps in DRAWINGS:
            for ask in (look_at, kinds_of, weights_of, freedoms_of, paper_of):
                check_own(self, ask, [steps])
            check_own(self, musts_of, [steps, paper_of(steps)])

    def test_the_kinds_of_what_is_told(self):
        for steps in DRAWINGS:
            self.assertIs(kinds_of(steps).__class__, list)
            self.assertIs(freedoms_of(steps).__class__, int)
            self.assertIs(weights_of(steps).__class__, list)
            for weights in weights_of(steps):
                self.assertIs(weights.__class__, tuple)
                self.assertTrue(all(one.__class__ is int for one in weights))
            musts = musts_of(steps, paper_of(steps))
            self.assertTrue(musts.__class__ is list and all(some.__class__ is list for some in musts))

    def test_behind_a_refusal(self):
        bad = [
            [O] * 25, [("nothing",)], [O, ("through", 0, 1)], [FREE] * 4,
            [FREE, FREE, ("round", 0, 1), ("touch", 2, 0)], [O] + [("part", k, k, (1, 2)) for k in range(6)],
        ]
        for steps in DRAWINGS:
            paper = paper_of(steps)
            before = deepcopy((kinds_of(steps), weights_of(steps), freedoms_of(steps), paper, musts_of(steps, paper)))
            for refused in bad:
                check_refused(self, refused, due_refusal(refused)[1], due_refusal(refused)[0])
            behind = (kinds_of(steps), weights_of(steps), freedoms_of(steps), paper_of(steps), musts_of(steps, paper))
            self.assertEqual(behind, before)


if __name__ == "__main__":
    unittest.main()

"""Point 22: texts; and points 2 and 4, as far as they speak of them."""

import random
import unittest
from copy import deepcopy
from fractions import Fraction

from everydraw.drawings import look_at
from everydraw.errors import (
    BadKnown, BadName, BadSaying, BadStep, BadThing, DrawError, NoText, TooDeep, TooFree, TooMany,
)
from everydraw.texts import read_drawing, read_saying, shown_drawing, shown_saying
from examples import ALL_WORDS, DRAWINGS, FREE, O, P, Q
from plain import check_own
from told import ENTRIES

LETTERS = "abcdefghijklmnopqrstuvwxyz"
WRONG_NAMES = [
    "", "123456789", "abcdefghi", "a23456789", "1", "1a", "0", "A", "aB", "a_b", "_", "a-b", "a b", " a", "a ", "a.",
    "=",
    "a=", "a\n", "\na", "a\t", "/", "1/2", "-1", "\u00e4", "a\u00e4", "\u0661", "a\u0661", "a\u00b2", "\uff41",
    "a\uff11",
    None, True, 0, 7, ("a",), ["a"], b"a",
]
# A text that stands for a whole number behind a name, and one for a fraction.
WRONG_FRACTIONS = [
    "", "+1", "+0", "-0", "-0/2", "0/1", "0/2", "1/1", "-5/1", "2/4", "-6/3", "4/2", "01", "-01", "00", "1/02", "01/2",
    "1/0", "0/0", "1/-2", "-1/-2", "1//2", "1/2/3", "1/", "/2", "/", "-", "--1", "-/2", "1.5", "1e3", "1_0", "0x1",
    "1000000", "-1000000", "1/1000000", "1000000/3", "1234567/2", "9999999", "\u0661", "\u00b2", "\uff11", "1/\u0662",
    "1\u00bd", "a", "o", "p", "x", "half", "1,2", "(1,2)", "True", "None", "9" * 300, "1/" + "3" * 5000, "7" * 5000,
]


def names_for(count, seed=0):
    """Names of 1 to 8 signs, all unlike."""
    chance = random.Random(seed)
    names = []
    while len(names) < count:
        name = chance.choice(LETTERS) + "".join(
            chance.choice(LETTERS + "0123456789") for _ in range(chance.choice([0, 0, 1, 2, 3, 7]))
        )
        if name not in names:
            names.append(name)
    return names


def by_hand(steps, names):
    """The texts of a drawing."""
    found = []
    for name, step in zip(names, steps):
        words = [name, "=", step[0]]
        for entry in step[1:]:
            words.append(names[entry] if entry.__class__ is int else str(Fraction(*entry)))
        found.append(" ".join(words))
    return found


class Refused(unittest.TestCase):
    def refused(self, ask, refusal, **fields):
        with self.assertRaises(DrawError) as caught:
            ask()
        self.assertIs(caught.exception.__class__, refusal)
        self.assertEqual(vars(caught.exception), fields)


class Drawings(Refused):
    def test_both_ways(self):
        for seed, steps in enumerate(DRAWINGS):
            names = names_for(len(steps), seed)
            lines = shown_drawing(steps, names)
            self.assertIs(lines.__class__, list)
            self.assertEqual(lines, by_hand(steps, names))
            told = read_drawing(lines)
            self.assertIs(told.__class__, tuple)
            self.assertEqual(told, (steps, names))
            self.assertTrue(all(one.__class__ is list for one in told))
            self.assertEqual(shown_drawing(*told), lines)

    def test_all_twenty_words(self):
        names = list(LETTERS[:24])
        self.assertEqual(shown_drawing(ALL_WORDS, names), [
            "a = free", "b = told 1/2 -3/4", "c = told 5 0", "d = told -2/3 7/5", "e = through b c", "f = slide b c",
            "g = foot a e", "h = mirrored d e", "i = part a d -5/7", "j = side a e", "k = square d e", "l = meet j k",
            "m = round a b", "n = round3 b c a", "o = centre m", "p = polar m d", "q = touch m b", "r = axis m n",
            "s = mirroredround m e", "t = again m e b", "u = roll n c", "v = five a b c d h", "w = centre v",
            "x = again v e c",
        ])

    def test_the_empty_drawing(self):
        self.assertEqual(shown_drawing([], []), [])
        self.assertEqual(read_drawing([]), ([], []))

    def test_fractions(self):
        for one in ((0, 1), (1, 1), (-1, 1), (7, 1), (10, 1), (-100, 1), (999999, 1), (-999999, 1), (1, 2), (-1, 2),
                    (999999, 999998), (-1, 999999), (10, 3), (100, 101), (-3, 10)):
            steps = [("told", one, (0, 1)), ("told", (2, 1), one), ("part", 0, 1, one)]
            text = str(Fraction(*one))
            lines = [f"a = told {text} 0", f"b = told 2 {text}", f"c = part a b {text}"]
            self.assertEqual(shown_drawing(steps, ["a", "b", "c"]), lines)
            self.assertEqual(read_drawing(lines), (steps, ["a", "b", "c"]))

    def test_names_of_1_and_of_8_signs(self):
        names = ["a", "z9999999", "abcdefgh", "a0", "a1234567", "zz", "free", "told", "x2y"]
        steps = [O, P] + [("part", 0, 1, (1, 2))] * 7
        lines = shown_drawing(steps, names)
        self.assertEqual(lines[2], "abcdefgh = part a z9999999 1/2")
        self.assertEqual(lines[6], "free = part a z9999999 1/2")
        self.assertEqual(read_drawing(lines), (steps, names))

    def test_bad_name(self):
        for wrong in WRONG_NAMES:
            self.refused(lambda: shown_drawing([O], [wrong]), BadName)
            self.refused(lambda: shown_drawing([O, P, Q], ["a", "b", wrong]), BadName)
            self.refused(lambda: shown_drawing([O, P, Q], [wrong, "b", "c"]), BadName)
        for names in ([], ["a"], ["a", "b"], ["a", "b", "c", "d"], ["a", "b", "a"], ["a", "a", "c"], ["b1", "b", "b1"]):
            self.refused(lambda: shown_drawing([O, P, Q], names), BadName)
        self.refused(lambda: shown_drawing([], ["a"]), BadName)

    def test_the_drawing_ahead_of_the_names(self):
        for steps, refusal, fields in (
            ([O] * 25, TooMany, {}), ([O, None], BadStep, {"step": 1}), ([O, ("through", 0, 1)], BadThing, {"step": 1}),
            ([FREE] * 4, TooFree, {"step": 3}),
            ([FREE, FREE, ("round", 0, 1), ("touch", 2, 0)], BadKnown, {"step": 3}),
        ):
            for names in ([], ["A"] * 25, list(LETTERS[:len(steps)])):
                self.refused(lambda: shown_drawing(steps, names), refusal, **fields)


class ReadDrawing(Refused):
    START = ["o = told 0 0", "p = told 1 0", "x = free", "l = through o x", "c = round o p"]

    def wrong(self, text, start=None):
        """Refused as the first, the next and a middle one, and the first wrong one is told."""
        start = self.START if start is None else start
        self.refused(lambda: read_drawing(start + [text]), NoText, line=len(start))
        self.refused(lambda: read_drawing(start + [text, "z = free", text]), NoText, line=len(start))
        self.refused(lambda: read_drawing([text] + start), NoText, line=0)

    def right(self, text):
        steps, names = read_drawing(self.START + [text])
        self.assertEqual(len(steps), 6)
        self.assertEqual(shown_drawing(steps, names), self.START + [text])

    def test_what_is_right(self):
        for text in ("q = told -1/2 3", "q = part o p -2/3", "q = foot o l", "q = polar c x", "undo = free",
                     "c1 = free",
                     "q = slide o p", "told = told 1 1", "q = part o p 0", "q = part o p 999999"):
            self.right(text)

    def test_blanks(self):
        for text in ("q = told 1 2", "q = free", "q = foot o l"):
            self.right(text)
            for place, sign in enumerate(text):
                if sign == " ":
                    self.wrong(text[:place] + " " + text[place:])
                    self.wrong(text[:place] + text[place + 1:])
                    for other in ("\t", "\n", "\u00a0", "_", "  "):
                        self.wrong(text[:place] + other + text[place + 1:])
            for other in (" " + text, text + " ", text + "\n", "\n" + text, "\t" + text):
                self.wrong(other)

    def test_the_empty_text_and_other_short_ones(self):
        for text in ("", " ", "  ", "=", "q", "q =", "q = ", "= free", " = free", "q free", "q free =", "free",
                     "q == free",
                     "q : free", "q = = free", "free = q", "q=free", "q =free", "q= free"):
            self.wrong(text)

    def test_names(self):
        for wrong in WRONG_NAMES:
            if isinstance(wrong, str):
                self.wrong(wrong + " = free")
        for name in ("o", "p", "x", "l", "c"):
            self.refused(lambda: read_drawing(self.START + [name + " = free"]), NoText, line=5)
        self.refused(lambda: read_drawing(["q = free", "q = free"]), NoText, line=1)

    def test_words(self):
        for word in ("", "Free", "frees", "fre", "point", "inline", "on", "same", "round4", "0", "=", "FREE"):
            self.wrong("q = " + word)
            self.wrong("q = " + word + " o p")
        for word in ENTRIES:
            self.wrong("q = " + word + " o p x")

    def test_too_few_or_too_many_entries(self):
        lines = shown_drawing(ALL_WORDS, list(LETTERS[:24]))
        for k, line in enumerate(lines):
            for other in (line + " a", line + " 1/2", line + " b c", line + " 0"):
                self.refused(lambda: read_drawing(lines[:k] + [other] + lines[k + 1:]), NoText, line=k)
            words = line.split(" ")
            for place in range(len(words)):
                other = " ".join(words[:place] + words[place + 1:])
                self.refused(lambda: read_drawing(lines[:k] + [other] + lines[k + 1:]), NoText, line=k)

    def test_a_name_for_a_fraction_and_the_other_way_about(self):
        lines = shown_drawing(ALL_WORDS, list(LETTERS[:24]))
        for k, line in enumerate(lines):
            words = line.split(" ")
            for place in range(3, len(words)):
                others = ["a", "b"] if words[place][0] in "-0123456789" else ["0", "1/2", "-3", "A", "nn", "5"]
                for other in others:
                    if k > 1 or other not in ("a", "b"):
                        text = " ".join(words[:place] + [other] + words[place + 1:])
                        self.refused(lambda: read_drawing(lines[:k] + [text] + lines[k + 1:]), NoText, line=k)

    def test_fractions(self):
        for wrong in WRONG_FRACTIONS:
            for text in ("q = told " + wrong + " 0", "q = told 0 " + wrong, "q = part o p " + wrong):
                self.wrong(text)

    def test_names_that_stand_for_no_earlier_thing(self):
        for name in ("q", "z", "y", "oo", "O", "1", "", "o1"):
            self.wrong("q = through o " + name)
            self.wrong("q = through " + name + " o")
        # Its own, that of a later step.
        self.refused(lambda: read_drawing(["o = free", "q = through o q"]), NoText, line=1)
        self.refused(lambda: read_drawing(["o = free", "q = through o p", "p = free"]), NoText, line=1)
        self.assertEqual(read_drawing(["o = free", "p = free", "q = through o p"])[1], ["o", "p", "q"])

    def test_the_first_such_line(self):
        wrong = ["q =", "q = told 2/4 0", "q = through o z", "q = free free", ""]
        for first in wrong:
            for last in wrong:
                lines = ["o = free", first, "p = free", last]
                self.refused(lambda: read_drawing(lines), NoText, line=1)
        # A name that comes again does so at the second place.
        self.refused(lambda: read_drawing(["o = free", "p = free", "o = free", "x ="]), NoText, line=2)

    def test_then_as_look_at(self):
        many = [f"a{k} = told 0 0" for k in range(25)]
        parts = ["a0 = told 0 0"] + [f"a{k + 1} = part a{k} a{k} 1/2" for k in range(6)]
        for lines, refusal, fields in (
            (many, TooMany, {}), (["o = free", "q = foot o o"], BadThing, {"step": 1}),
            (["o = free", "p = free", "l = through o p", "q = through o l"], BadThing, {"step": 3}),
            ([f"a{k} = free" for k in range(5)], TooFree, {"step": 3}), (parts, TooDeep, {"step": 6}),
            (self.START + ["t = touch c o"], BadKnown, {"step": 5}),
        ):
            self.refused(lambda: read_drawing(lines), refusal, **fields)
            # NoText ahead of these, also of a line behind.
            if lines != many:
                self.refused(lambda: read_drawing(lines + ["q ="]), NoText, line=len(lines))
        self.refused(lambda: read_drawing(many + ["q ="]), NoText, line=25)
        self.refused(lambda: read_drawing(many[:24] + ["q ="]), NoText, line=24)
        self.assertEqual(len(read_drawing(many[:24])[0]), 24)

    def test_chance_texts(self):
        # Never another class than these; what is read is shown again just so.
        chance = random.Random(22)
        lines = shown_drawing(ALL_WORDS, list(LETTERS[:24]))
        count = {True: 0, False: 0}
        for _ in range(1500):
            k = chance.randrange(24)
            text = lines[k]
            for _ in range(chance.randint(1, 2)):
                place = chance.randrange(len(text) + 1)
                sign = chance.choice(list("ab=l01/- 2") + [""])
                text = text[:place] + sign + text[place + chance.randint(0, 1):]
            some = lines[:k] + [text] + lines[k + 1:]
            try:
                told = read_drawing(some)
            except NoText as refusal:
                self.assertGreaterEqual(refusal.line, k)
                count[False] += 1
            except (BadThing, BadKnown, TooDeep, TooFree) as refusal:
                self.assertGreaterEqual(refusal.step, k)
            else:
                self.assertEqual(shown_drawing(*told), some)
                look_at(told[0])
                count[True] += 1
        self.assertGreater(min(count.values()), 20, count)


class Sayings(Refused):
    NAMES = ["a", "b", "c", "d", "e1", "f", "abcdefgh"]

    def test_both_ways(self):
        chance = random.Random(1)
        for word, due in ENTRIES.items():
            for _ in range(5):
                saying = (word,) + tuple(chance.randrange(7) for _ in due)
                text = " ".join([word] + [self.NAMES[number] for number in saying[1:]])
                self.assertEqual(shown_saying(saying, self.NAMES), text)
                self.assertEqual(read_saying(text, self.NAMES), saying)
        self.assertEqual(shown_saying(("on", 4, 6), self.NAMES), "on e1 abcdefgh")
        self.assertEqual(read_saying("same b a", ["a", "b"]), ("same", 1, 0))

    def test_bad_saying(self):
        for saying in (
            None, True, 3, "inline a b c", ["inline", 0, 1, 2], (), ("",), ("free",), ("through", 0, 1),
            ("inline", 0, 1),
            ("inline", 0, 1, 2, 3), ("inline",), (0, 1, 2), (None, 0, 1), (["on"], 0, 1), ("on", 0, True),
            ("on", "a", 1),
            ("on", False, 1), ("on", None, 1), ("on", (0,), 1), ("on", 0, 1.0), ("Inline", 0, 1, 2),
        ):
            self.refused(lambda: shown_saying(saying, self.NAMES), BadSaying)
            self.refused(lambda: shown_saying(saying, ["A"]), BadSaying)

    def test_bad_name(self):
        for number in (7, 8, -1, -7, 10**29, -10**29):
            for saying in (("same", 0, number), ("same", number, 0)):
                self.refused(lambda: shown_saying(saying, self.NAMES), BadName)
        self.refused(lambda: shown_saying(("same", 0, 0), []), BadName)
        for wrong in WRONG_NAMES:
            for names in ([wrong, "b", "c"], ["a", "b", wrong], ["a", wrong]):
                self.refused(lambda: shown_saying(("same", 0, 1), names), BadName)
        for names in (["a", "a"], ["a", "b", "a"], ["a", "b", "b"]):
            self.refused(lambda: shown_saying(("same", 0, 1), names), BadName)
        self.assertEqual(shown_saying(("same", 0, 1), ["a", "b", "c"]), "same a b")

    def test_no_text(self):
        for text in (
            "", " ", "inline", "inline a b", "inline a b c d", "inline a b x", "inline a b A", "inline a b 1",
            "Inline a b c",
            " inline a b c", "inline a b c ", "inline  a b c", "inline a  b c", "inline a b c\n", "inline\ta b c",
            "inline a,b,c", "inlinea b c", "through a b", "free", "a b c", "same a", "same a b c", "same a b ",
            "same a ",
            "same a =", "on a 0", "same 0 1", "same \u0661 a", "on", "on a", "= a b", "inline a b c;", "e1 a b",
        ):
            self.refused(lambda: read_saying(text, self.NAMES), NoText, line=0)
        for word, due in ENTRIES.items():
            for count in range(8):
                text = " ".join([word] + ["a"] * count)
                if count == len(due):
                    self.assertEqual(read_saying(text, self.NAMES), (word,) + (0,) * count)
                else:
                    self.refused(lambda: read_saying(text, self.NAMES), NoText, line=0)
        self.refused(lambda: read_saying("same a b", []), NoText, line=0)
        self.refused(lambda: read_saying("same a b", ["b"]), NoText, line=0)


class TheAskersOwn(Refused):
    def test_what_is_handed_in_and_what_is_told(self):
        for steps in DRAWINGS:
            names = names_for(len(steps))
            lines = by_hand(steps, names)
            check_own(self, shown_drawing, [steps, names])
            check_own(self, read_drawing, [lines])
        check_own(self, shown_saying, [("same", 0, 1), ["a", "b"]])
        check_own(self, read_saying, ["same a b", ["a", "b"]])

    def test_behind_a_refusal(self):
        def ask():
            return (shown_drawing([O, P], ["a", "b"]), read_drawing(["a = free", "b = free"]),
                    shown_saying(("same", 0, 1), ["a", "b"]), read_saying("same a b", ["a", "b"]))

        before = deepcopy(ask())
        for wrong, refusal, fields in (
            (lambda: shown_drawing([O, P], ["a", "a"]), BadName, {}),
            (lambda: read_drawing(["a = x"]), NoText, {"line": 0}),
            (lambda: shown_saying(("same", 0, 2), ["a", "b"]), BadName, {}),
            (lambda: read_saying("same a c", ["a", "b"]), NoText, {"line": 0}),
        ):
            self.refused(wrong, refusal, **fields)
            self.assertEqual(ask(), before)


if __name__ == "__main__":
    unittest.main()

"""Point 23: the desk; and points 2 and 4, as far as they speak of it."""

import random
import unittest
from fractions import Fraction

from everydraw.answers import answer_of
from everydraw.desk import Desk
from everydraw.drawings import look_at
from everydraw.errors import (
    BadKnown, BadPlace, BadSaying, BadThing, DrawError, NoLine, NoStep, NoText, TooDeep, TooFree, TooMany,
)
from everydraw.everything import all_sayings, new_sayings
from everydraw.exact import drawn_at, undone_at
from everydraw.sayings import holds_at
from everydraw.texts import read_drawing, read_saying, shown_drawing, shown_saying
from examples import ALL_WORDS, CURVES, DRAWINGS, NOWHERE, SLIDES
from plain import THIRTY
from told import ENTRIES

LETTERS = "abcdefghijklmnopqrstuvwxyz"
HEIGHTS = [
    "a = free", "b = free", "c = free", "l = through b c", "m = through a c", "h = square a l", "k = square b m",
    "x = meet h k",
]
SQUARE = ["o = told 0 0", "p = told 1 0", "q = told 0 1", "r = told 1 1", "l = through o p", "m = through q r",
          "n = through o q"]


def laid(lines):
    desk = Desk()
    for line in lines:
        desk.tell(line)
    return desk


def shown(name, thing):
    """By hand: a thing as the desk tells it."""
    parts = [str(Fraction(*part)) if part.__class__ is tuple else str(part) for part in thing[1:]]
    return " ".join([name] + parts)


class Asked(unittest.TestCase):
    def refused(self, desk, text, refusal, **fields):
        with self.assertRaises(DrawError) as caught:
            desk.tell(text)
        self.assertIs(caught.exception.__class__, refusal, text)
        self.assertEqual(vars(caught.exception), fields, text)

    def tells(self, desk, line, answer):
        told = desk.tell(line)
        self.assertIs(told.__class__, str)
        self.assertEqual(told, answer, line)


class Steps(Asked):
    def test_laid_and_the_name(self):
        for steps in DRAWINGS:
            names = list(LETTERS[:len(steps)])
            desk = Desk()
            for name, line in zip(names, shown_drawing(steps, names)):
                self.tells(desk, line, "laid " + name)
        desk = Desk()
        self.tells(desk, "abcdefgh = told -1/2 3", "laid abcdefgh")
        self.tells(desk, "z1 = part abcdefgh abcdefgh 2/3", "laid z1")

    def test_names_that_are_words_of_the_desk(self):
        desk = Desk()
        for word in ("ask", "all", "new", "at", "undo", "paper", "laid", "free", "told", "inline"):
            self.tells(desk, word + " = told 0 0", "laid " + word)
        self.tells(desk, "ask same ask undo", "always")
        self.tells(desk, "at", "ask 0 0; all 0 0; new 0 0; at 0 0; undo 0 0; paper 0 0; laid 0 0; free 0 0; told 0 0; "
                               "inline 0 0")
        self.tells(desk, "undo", "left 9")
        self.tells(desk, "one = through ask all", "laid one")

    def test_no_text(self):
        desk = laid(SQUARE)
        for line in (
            "= = free", "A = free", "1a = free", "abcdefghi = free", "s =", "s = =", "s = nothing", "s = Free",
            "s = free free", "s = told 1", "s = told 1 2 3", "s = told 2/4 0", "s = told o p", "s = through o 1",
            "s = through o z", "s = through s o", "o = free", "l = free", "s = told -0 1", "s = told 1000000 0",
            "s = part o p 1/1", "ask =", "undo = p", "undo = undo", "at = 1/2", "all = inline", "s = same o p",
            "s_1 = free", "s = told +1 0", "- = free", "; = free", "s = free;",
        ):
            self.refused(desk, line, NoText, line=7)
            self.tells(desk, "at", "o 0 0; p 1 0; q 0 1; r 1 1; l 0 1 0; m 0 1 -1; n 1 0 0")
        self.refused(Desk(), "s =", NoText, line=0)

    def test_as_look_at_refuses(self):
        for lines, line, refusal, fields in (
            (SQUARE, "s = through o l", BadThing, {"step": 7}), (SQUARE, "s = foot l o", BadThing, {"step": 7}),
            (["a = free", "b = free", "c = free"], "d = free", TooFree, {"step": 3}),
            (["a = told 0 0"] + [f"{LETTERS[k]} = part {LETTERS[k - 1]} {LETTERS[k - 1]} 1/2" for k in range(1, 6)],
             "x = part f f 1/2", TooDeep, {"step": 6}),
            (SQUARE + ["c = round o p"], "s = touch c r", BadKnown, {"step": 8}),
            ([f"{sign} = told 0 0" for sign in LETTERS[:24]], "y = told 0 0", TooMany, {}),
            ([f"{sign} = told 0 0" for sign in LETTERS[:24]], "y = through a l", TooMany, {}),
        ):
            desk = laid(lines)
            before = desk.tell("at" + " 1" * 2 * sum(one.endswith("free") for one in lines))
            self.refused(desk, line, refusal, **fields)
            self.refused(desk, line, refusal, **fields)
            self.tells(desk, "at" + " 1" * 2 * sum(one.endswith("free") for one in lines), before)
            self.tells(desk, "undo", f"left {len(lines) - 1}")
        # NoText ahead of these.
        desk = laid([f"{sign} = told 0 0" for sign in LETTERS[:24]])
        self.refused(desk, "y =", NoText, line=24)
        self.refused(desk, "a = told 0 0", NoText, line=24)

    def test_a_25th_step(self):
        desk = laid([f"{sign} = told 0 0" for sign in LETTERS[:24]])
        self.refused(desk, "y = told 0 0", TooMany)
        self.tells(desk, "undo", "left 23")
        self.tells(desk, "y = told 0 0", "laid y")
        self.refused(desk, "x = told 0 0", TooMany)


class Asking(Asked):
    def test_always(self):
        desk = laid(HEIGHTS + ["n = through a b", "d = square c n"])
        self.tells(desk, "ask one h k d", "always")
        self.tells(desk, "ask on x d", "always")
        self.tells(desk, "ask asquare d n", "always")

    def test_fails(self):
        desk = laid(HEIGHTS)
        steps, names = read_drawing(HEIGHTS)
        for text in ("inline a b c", "asquare l m", "same a b", "on x l"):
            words = desk.tell("ask " + text).split(" ")
            self.assertEqual(words[0], "fails")
            place = [(Fraction(word).numerator, Fraction(word).denominator) for word in words[1:]]
            self.assertEqual(len(place), 6)
            self.assertEqual([str(Fraction(*one)) for one in place], words[1:])
            self.assertIs(holds_at(steps, read_saying(text, names), place), False)
            # The place is of the form that at takes.
            self.assertTrue(desk.tell("at " + " ".join(words[1:])).startswith("a "))
        self.tells(laid(SQUARE), "ask same o p", "fails")

    def test_never(self):
        desk = laid(["a = free", "xy = through a a", "b = free", "z = through b b"])
        for text in ("same a a", "same a b", "on a xy", "sameline xy z"):
            self.tells(desk, "ask " + text, "never xy")

    def test_paper(self):
        desk = laid(HEIGHTS)
        for text in ("on x h", "on x l", "same a a", "inline a b c"):
            self.tells(desk, "paper " + text, "yes")
        self.tells(laid(["a = free", "l = through a a"]), "paper on a l", "yes")
        self.tells(laid(SQUARE), "paper same o p", "yes")

    def test_no_text(self):
        desk = laid(HEIGHTS)
        for text in ("", " same", " same a", " same a b c", " same a z", " Same a b", " a b", " free", " same a 1",
                     " z",
                     " ask", " on a", " inline a b c x", " same a a;", " same A b"):
            for word in ("ask", "paper"):
                self.refused(desk, word + text, NoText, line=0)
        for word in ("ask", "paper"):
            self.refused(Desk(), word, NoText, line=0)
            self.refused(Desk(), word + " same a b", NoText, line=0)

    def test_as_look_saying_refuses(self):
        desk = laid(HEIGHTS)
        for word in ("ask", "paper"):
            self.refused(desk, word + " same a l", BadThing, step=8)
            self.refused(desk, word + " on l a", BadThing, step=8)
            self.refused(desk, word + " far x a x b", TooDeep, step=8)


class All(Asked):
    def test_told_out(self):
        desk = laid(SQUARE)
        self.tells(desk, "all ring aside asquare", "ring o p q r; aside l m; asquare l n; asquare m n")
        self.tells(desk, "all aside", "aside l m")
        self.tells(desk, "new aside asquare", "asquare l n; asquare m n")
        self.tells(desk, "new aside", "none")
        self.tells(desk, "all same inline", "none")
        self.tells(desk, "all far far", "far o p q r; far o q p r; far o r p q")

    def test_against_the_functions(self):
        for lines in (HEIGHTS, SQUARE, shown_drawing(ALL_WORDS[:10], list(LETTERS[:10])), shown_drawing(
                CURVES[:8], list(LETTERS[:8])), shown_drawing(SLIDES, list(LETTERS[:7]))):
            desk = laid(lines)
            steps, names = read_drawing(lines)
            for words in (["on"], ["same", "asquare"], ["aside", "on", "aside"], ["touches", "evenround"]):
                for word, ask in (("all", all_sayings), ("new", new_sayings)):
                    due = "; ".join(shown_saying(saying, names) for saying in ask(steps, words)) or "none"
                    self.tells(desk, word + " " + " ".join(words), due)

    def test_alone(self):
        for desk in (Desk(), laid(SQUARE), laid(HEIGHTS)):
            self.tells(desk, "all", "none")
            self.tells(desk, "new", "none")

    def test_of_the_empty_drawing(self):
        self.tells(Desk(), "all " + " ".join(ENTRIES), "none")
        self.tells(Desk(), "new on", "none")

    def test_where_a_step_is_made_nowhere(self):
        desk = laid(["a = told 0 0", "b = told 0 0"])
        self.tells(desk, "all same", "same a b")
        desk.tell("l = through a b")
        self.tells(desk, "all same", "none")
        desk.tell("undo")
        self.tells(desk, "all same", "same a b")

    def test_the_refusals(self):
        desk = laid(SQUARE)
        many = laid([f"{sign} = told 0 0" for sign in LETTERS[:9]])
        for word in ("all", "new"):
            for words in ("none", "on none", "On", "on on none", "a b", "free", "1", "=on", "on ="):
                self.refused(desk, word + " " + words, BadSaying)
            self.refused(many, word + " inline", TooMany)
            self.refused(many, word + " inline none", BadSaying)
        self.tells(many, "all evenround", "none")


class At(Asked):
    def test_told_out(self):
        desk = laid(["a = free", "b = told 1/2 -3", "l = through a b", "c = round b a"])
        self.tells(desk, "at 0 0", "a 0 0; b 1/2 -3; l 6 1 0; c 1/2 -3 37/4")
        self.tells(desk, "at -1/2 1", "a -1/2 1; b 1/2 -3; l 4 1 1; c 1/2 -3 17")
        self.tells(desk, "at 1/2 -3", "stops l")
        five = laid(["a = told 1 1", "b = told -1 1", "c = told 2 4", "d = told -2 4", "e = free", "v = five a b c d e",
                     "m = centre v"])
        self.tells(five, "at 0 0", "stops m")
        five.tell("undo")
        self.tells(five, "at 0 0", "a 1 1; b -1 1; c 2 4; d -2 4; e 0 0; v 1 0 0 0 -1 0")

    def test_each_drawing(self):
        chance = random.Random(23)
        stops = 0
        for steps in DRAWINGS:
            names = list(LETTERS[:len(steps)])
            desk = laid(shown_drawing(steps, names))
            for _ in range(8):
                place = [Fraction(chance.randint(-2, 2), chance.choice([1, 1, 2, 3])) for _ in range(6)]
                place = place[:sum({"free": 2, "slide": 1, "roll": 1}.get(step[0], 0) for step in steps)]
                line = " ".join(["at"] + [str(one) for one in place])
                place = [(one.numerator, one.denominator) for one in place]
                undone = undone_at(steps, place)
                if undone is not None:
                    stops += 1
                    self.tells(desk, line, "stops " + names[undone])
                else:
                    due = "; ".join(shown(name, one) for name, one in zip(names, drawn_at(steps, place)))
                    self.tells(desk, line, due or "none")
        self.assertGreater(stops, 8)

    def test_the_empty_drawing(self):
        self.tells(Desk(), "at", "none")
        self.refused(Desk(), "at 0", BadPlace)

    def test_long_numbers(self):
        desk = laid(["a = free"])
        self.tells(desk, f"at -{THIRTY} 1/{THIRTY}", f"a -{THIRTY} 1/{THIRTY}")
        self.tells(desk, "at 1234567 -7/12345678", "a 1234567 -7/12345678")
        long = "9" * 140
        self.tells(desk, f"at {long} -{long}", f"a {long} -{long}")

    def test_no_text(self):
        desk = laid(["a = free"])
        for wrong in ("-0", "+1", "01", "00", "1/1", "2/4", "0/1", "0/2", "1/0", "1/-2", "a", "1.5", "x", "1/02",
                      "--1", "-",
                      "/", "1/", "/2", "1/2/3", "one", "1,", "1;", "1_0", "-0/3"):
            for line in ("at " + wrong + " 1", "at 1 " + wrong, "at " + wrong, "at 1 2 3 " + wrong):
                self.refused(desk, line, NoText, line=0)

    def test_bad_place(self):
        desk = laid(["a = free", "l = through a a"])
        for line in ("at", "at 1", "at 1 2 3", "at 0 0 0 0"):
            self.refused(desk, line, BadPlace)
        self.tells(desk, "at 1 2", "stops l")


class Undo(Asked):
    def test_left_and_how_many(self):
        desk = laid(SQUARE)
        for count in reversed(range(len(SQUARE))):
            self.tells(desk, "undo", f"left {count}")
        for _ in range(2):
            self.refused(desk, "undo", NoStep)
        self.tells(desk, "at", "none")
        self.tells(desk, "o = free", "laid o")

    def test_a_name_is_free_again(self):
        desk = laid(["a = free", "b = told 1 2"])
        self.refused(desk, "b = free", NoText, line=2)
        self.tells(desk, "undo", "left 1")
        self.refused(desk, "ask same a b", NoText, line=0)
        self.tells(desk, "b = free", "laid b")
        self.tells(desk, "at 1 2 3 4", "a 1 2; b 3 4")
        self.tells(desk, "undo", "left 1")
        self.tells(desk, "c = part a a 1/2", "laid c")
        self.tells(desk, "ask same a c", "always")

    def test_undo_with_words_behind(self):
        desk = laid(SQUARE)
        for line in ("undo undo", "undo 1", "undo n", "undo o = free", "undo now ="):
            self.refused(desk, line, NoLine)
        self.tells(desk, "undo = free", "laid undo")
        self.tells(desk, "undo", "left 7")


class NoLines(Asked):
    def test_lines_that_are_none(self):
        desk = laid(SQUARE)
        for line in (
            "", " ", "  ", "Ask same o p", "asks same o p", "same o p", "o", "o free = ", "o free", "free", "told 0 0",
            "help", "stop", "laid o", "At", "ALL on", "=", "= o", "o == free", "o=free", "left", "1/2", ";", "~", "!",
            "ask; same o p", "UNDO", "undo;", "papers", "news", "judge same o p", "inline o p q",
        ):
            self.refused(desk, line, NoLine)
        self.tells(desk, "undo", "left 6")

    def test_blanks_elsewhere_than_told(self):
        desk = laid(SQUARE)
        for line in ("s = told 1 2", "ask same o p", "paper same o p", "all on aside", "new on", "at", "undo", "ask",
                     "all",
                     "undo 1", "nothing at all", "s = nothing", "ask nothing", "all nothing", "at x"):
            for place in [0, len(line)] + [k for k, sign in enumerate(line) if sign == " "]:
                for blanks in (" ", "  "):
                    self.refused(desk, line[:place] + blanks + line[place:], NoLine)

    def test_ahead_of_everything(self):
        # On the empty desk and on a full one.
        for desk in (Desk(), laid([f"{sign} = told 0 0" for sign in LETTERS[:24]])):
            for line in ("undo 1", "y  = told 0 0", " y = told 0 0", "y = told 0 0 ", "ask  same a z", "at  x",
                         "all  none"):
                self.refused(desk, line, NoLine)


class ARefusedLine(Asked):
    LINES = [
        "", "undo undo", "o = free", "s = nothing", "s = through o l", "ask same o z", "ask same o l", "paper", "at 1",
        "at x",
        "all none", "new inline none", "s  = free", "s = told 2/4 0",
    ]

    def ask(self, desk):
        return [desk.tell(line) for line in (
            "at", "ask ring o p q r", "ask same o p", "all ring aside asquare", "new asquare", "paper on o l",
            "all far",
        )]

    def test_changes_nothing(self):
        desk = laid(SQUARE)
        before = self.ask(desk)
        for line in self.LINES:
            with self.assertRaises(DrawError):
                desk.tell(line)
            self.assertEqual(self.ask(desk), before)
        self.tells(desk, "s = free", "laid s")
        self.tells(desk, "undo", "left 7")
        self.assertEqual(self.ask(desk), before)
        for count in reversed(range(7)):
            self.tells(desk, "undo", f"left {count}")

    def test_two_desks_side_by_side(self):
        one, other = Desk(), Desk()
        one.tell("a = told 0 0")
        other.tell("b = told 1 1")
        self.tells(one, "at", "a 0 0")
        self.tells(other, "at", "b 1 1")
        one.tell("b = told 2 2")
        self.tells(other, "undo", "left 0")
        self.tells(one, "ask same a b", "fails")
        self.refused(other, "ask same a b", NoText, line=0)
        self.refused(other, "undo", NoStep)
        self.tells(Desk(), "at", "none")
        self.tells(one, "undo", "left 1")

    def test_the_same_is_told_again(self):
        for lines in (HEIGHTS, SQUARE, shown_drawing(NOWHERE, list(LETTERS[:19]))):
            desk, other = laid(lines), laid(lines)
            names = [line.split(" ")[0] for line in lines]
            asked = [f"ask same {names[0]} {names[1]}", "all same", f"paper same {names[0]} {names[1]}", "new on"]
            first = [desk.tell(line) for line in asked]
            self.assertEqual([desk.tell(line) for line in reversed(asked)], first[::-1])
            self.assertEqual([other.tell(line) for line in asked], first)

    def test_chance_lines(self):
        # Never another refusal than the program's own, and a desk beside, told of what was let by, answers the same.
        chance = random.Random(5)
        desk, kept = Desk(), []
        words = ["a", "b", "c", "=", "free", "told", "through", "ask", "same", "on", "at", "all", "undo", "0", "1/2",
                 "-3", "",
                 "inline", "part", "new", "paper"]
        seen = {}
        for _ in range(3000):
            if chance.random() < 0.3:
                line = chance.choice(["a = free", "b = told 0 1/2", "c = part a b -3", "undo", "ask same a b",
                                      "l = through a b",
                                      "at 1 2", "all on inline", "paper inline a b c", "new on"])
            else:
                line = " ".join(chance.choice(words) for _ in range(chance.randint(1, 5)))
            try:
                answer = desk.tell(line)
            except DrawError as refusal:
                seen[refusal.__class__.__name__] = seen.get(refusal.__class__.__name__, 0) + 1
                continue
            if answer.startswith("laid"):
                kept.append(line)
            if answer.startswith("left"):
                kept.pop()
            if chance.random() < 0.1:
                asked = laid(kept)
                for other in ("at 1 2", "all inline on", "ask same a b"):
                    self.assertEqual(self.outcome(asked, other), self.outcome(desk, other))
        self.assertTrue({"NoLine", "NoText", "NoStep", "BadSaying", "BadPlace"} <= set(seen), seen)

    def outcome(self, desk, line):
        try:
            return desk.tell(line)
        except DrawError as refusal:
            return refusal.__class__, vars(refusal)

    def test_steps_are_those_of_point_22(self):
        steps, names = read_drawing(HEIGHTS)
        look_at(steps)
        desk = laid(HEIGHTS)
        for saying in (("on", 7, 5), ("inline", 0, 1, 2), ("asquare", 3, 5), ("same", 0, 7)):
            text = shown_saying(saying, names)
            self.assertEqual(desk.tell("ask " + text).split(" ")[0], answer_of(steps, saying).word())


if __name__ == "__main__":
    unittest.main()

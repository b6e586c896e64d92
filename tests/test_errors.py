"""Point 4: the refusals' classes and fields."""

import unittest

from everydraw import errors
from everydraw.errors import DrawError, NoBottom
from everydraw.fracs import frac_by, fraction_of
from everydraw.polys import divided_by

WITHOUT_FIELDS = ("NoBottom", "BadPlace", "BadSaying", "TooMany", "BadChain", "NoName", "BadName", "NoLine", "NoStep")
WITH_STEP = ("BadStep", "BadThing", "TooFree", "TooDeep", "BadKnown", "CantMake")
WITH_LINE = ("NoText",)


class Classes(unittest.TestCase):
    def test_draw_error_stands_straight_beneath_value_error(self):
        self.assertEqual(DrawError.__bases__, (ValueError,))

    def test_each_refusal_stands_straight_beneath_draw_error(self):
        for name in WITHOUT_FIELDS + WITH_STEP + WITH_LINE:
            self.assertEqual(getattr(errors, name).__bases__, (DrawError,), name)

    def test_no_two_names_stand_for_one_class(self):
        found = {getattr(errors, name) for name in WITHOUT_FIELDS + WITH_STEP + WITH_LINE}
        self.assertEqual(len(found), 16)

    def test_the_fields_are_set_when_the_refusal_is_made(self):
        for number in (0, 23):
            for name in WITH_STEP:
                self.assertEqual(vars(getattr(errors, name)(number)), {"step": number}, name)
            for name in WITH_LINE:
                self.assertEqual(vars(getattr(errors, name)(number)), {"line": number}, name)

    def test_the_others_have_no_fields(self):
        for name in WITHOUT_FIELDS:
            self.assertEqual(vars(getattr(errors, name)()), {}, name)

    def test_each_is_taken_by_its_own_class_and_by_those_above_it(self):
        for name in WITHOUT_FIELDS + WITH_STEP + WITH_LINE:
            made = getattr(errors, name)() if name in WITHOUT_FIELDS else getattr(errors, name)(3)
            for above in (getattr(errors, name), DrawError, ValueError):
                with self.assertRaises(above):
                    raise made


class BehindARefusal(unittest.TestCase):
    def refused(self, asked, *things):
        with self.assertRaises(NoBottom) as caught:
            asked(*things)
        self.assertIs(caught.exception.__class__, NoBottom)

    def test_fractions_are_told_as_if_nothing_had_been_refused(self):
        before = (fraction_of(4, -6), frac_by((1, 2), (3, 4)))
        self.refused(fraction_of, 4, 0)
        self.refused(frac_by, (1, 2), (0, 1))
        self.assertEqual((fraction_of(4, -6), frac_by((1, 2), (3, 4))), before)

    def test_polynomials_are_told_as_if_nothing_had_been_refused(self):
        whole = [((2,), 1), ((0, 2), -1)]
        part = [((1,), 1), ((0, 1), 1)]
        before = divided_by(whole, part)
        self.refused(divided_by, whole, [])
        self.assertEqual(whole, [((2,), 1), ((0, 2), -1)])
        self.assertEqual(divided_by(whole, part), before)


if __name__ == "__main__":
    unittest.main()

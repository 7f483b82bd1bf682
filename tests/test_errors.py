"""The refusals: each by itself under AgeError and ValueError."""

import unittest

from agegrade import errors

NAMES = (
    "BadRule NoGrade BadYears Overdue TooSoon NoFeast NoYear NoSet NoMan Dead NotFathering NotWaiting BadPosts "
    "NoPost WrongGrade Posted Filled Vacant BadMany BadAges BadWish BadBeat BadBand BadDeed Nothing BadText"
).split()


class ErrorsTest(unittest.TestCase):
    def test_there_are_all_twenty_six_and_no_others(self):
        classes = {name for name, thing in vars(errors).items() if isinstance(thing, type)}
        self.assertEqual(len(NAMES), 26)
        self.assertEqual(classes, set(NAMES) | {"AgeError"})

    def test_age_error_is_a_value_error(self):
        self.assertEqual(errors.AgeError.__bases__, (ValueError,))

    def test_each_is_an_age_error_and_none_of_the_others(self):
        for name in NAMES:
            one = getattr(errors, name)(3)
            self.assertIsInstance(one, ValueError)
            self.assertIsInstance(one, errors.AgeError)
            for other in NAMES:
                self.assertEqual(isinstance(one, getattr(errors, other)), name == other, (name, other))

    def test_each_is_taken_by_its_own_name(self):
        for name in NAMES:
            refusal = getattr(errors, name)
            with self.assertRaises(refusal):
                raise refusal(0)

    def test_bad_text_has_its_row(self):
        for row in (0, 1, 17):
            with self.assertRaises(errors.BadText) as caught:
                raise errors.BadText(row)
            self.assertEqual(caught.exception.row, row)


if __name__ == "__main__":
    unittest.main()

import unittest

from macrohouse import errors
from macrohouse.errors import (
    BadForm,
    BadRule,
    GoesOn,
    HouseError,
    NoAhead,
    NoFill,
    NoName,
    NoRule,
    NoText,
    TwoClaims,
)

REFUSALS = (NoText, BadForm, BadRule, NoRule, NoFill, GoesOn, TwoClaims, NoName, NoAhead)


class ErrorsTest(unittest.TestCase):
    def test_each_refusal_stands_straight_under_house_error(self):
        for refusal in REFUSALS:
            self.assertEqual(refusal.__bases__, (HouseError,))
        self.assertEqual(HouseError.__bases__, (ValueError,))

    def test_none_stands_under_another_one(self):
        for one in REFUSALS:
            for other in REFUSALS:
                self.assertEqual(issubclass(one, other), one is other)

    def test_the_classes_are_called_as_the_interface_says(self):
        names = ["NoText", "BadForm", "BadRule", "NoRule", "NoFill", "GoesOn", "TwoClaims", "NoName", "NoAhead"]
        self.assertEqual([refusal.__name__ for refusal in REFUSALS], names)
        for name in names:
            self.assertEqual(getattr(errors, name).__module__, "macrohouse.errors")

    def test_fields_are_none_where_nothing_is_told(self):
        for refusal in (HouseError,) + REFUSALS:
            error = refusal("words")
            self.assertIsNone(error.at)
            self.assertIsNone(error.other)
            self.assertEqual(str(error), "words")

    def test_fields_are_kept_by_place_and_by_name(self):
        for refusal in (HouseError,) + REFUSALS:
            by_place = refusal("words", 3, 0)
            self.assertEqual((by_place.at, by_place.other), (3, 0))
            by_name = refusal("words", other=5, at=0)
            self.assertEqual((by_name.at, by_name.other), (0, 5))
            alone = refusal("words", 7)
            self.assertEqual((alone.at, alone.other), (7, None))

    def test_errors_know_nothing_of_each_other(self):
        first = NoName("first", 1, 2)
        NoName("second", 3, 4)
        self.assertEqual((first.at, first.other, str(first)), (1, 2, "first"))

    def test_they_are_raised_and_taken(self):
        for refusal in REFUSALS:
            for base in (refusal, HouseError, ValueError):
                with self.assertRaises(base) as caught:
                    raise refusal("words", 9)
                self.assertEqual(caught.exception.at, 9)


if __name__ == "__main__":
    unittest.main()

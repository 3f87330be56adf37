"""0.4 and the interface of errors.py."""

import inspect
import unittest

from holdplaces import errors

WITHOUT_FIELD = (
    "NoWeb", "NoPlaces", "NoPlace", "NoNumber", "NotUntied", "NoShares", "NotTree", "NotTold", "NoCrowds",
    "NoText", "NoLine", "NoDeed",
)
WITH_FIELDS = ("NotAll", "TooGreat")


class Refusals(unittest.TestCase):
    def test_just_these_classes_are_there(self):
        found = [name for name, _ in inspect.getmembers(errors, inspect.isclass)]
        self.assertEqual(sorted(found), sorted(("PlaceError",) + WITHOUT_FIELD + WITH_FIELDS))

    def test_place_error_is_straight_under_value_error(self):
        self.assertEqual(errors.PlaceError.__bases__, (ValueError,))

    def test_all_others_are_straight_under_place_error(self):
        for name in WITHOUT_FIELD + WITH_FIELDS:
            with self.subTest(name=name):
                self.assertEqual(getattr(errors, name).__bases__, (errors.PlaceError,))

    def test_most_have_no_field(self):
        for name in ("PlaceError",) + WITHOUT_FIELD:
            with self.subTest(name=name):
                self.assertEqual(vars(getattr(errors, name)("why")), {})

    def test_not_all_has_a_place(self):
        for place in (0, 7):
            self.assertEqual(vars(errors.NotAll(place)), {"place": place})

    def test_too_great_has_many_and_most(self):
        self.assertEqual(vars(errors.TooGreat(9, 8)), {"many": 9, "most": 8})
        self.assertEqual(vars(errors.TooGreat(16, 8)), {"many": 16, "most": 8})


if __name__ == "__main__":
    unittest.main()

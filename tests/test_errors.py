"""Point 10: the error classes."""

import unittest

from keptjoined import errors
from tests.helpers import FIELDS, KeptTest

SAMPLES = {"word": "w", "number": -7, "bound": 32, "place": 5, "row": 2, "column": 10, "fault": "nohouse",
           "key": ("arc", "l", "a", "b")}


class ErrorsTest(KeptTest):
    def test_the_base_class_is_a_direct_subclass_of_value_error(self):
        self.assertEqual(errors.KeptError.__bases__, (ValueError,))

    def test_each_error_is_a_direct_subclass_of_kept_error(self):
        for code in FIELDS:
            self.assertEqual(getattr(errors, code).__bases__, (errors.KeptError,), code)

    def test_each_error_is_defined_in_errors(self):
        for code in list(FIELDS) + ["KeptError"]:
            self.assertEqual(getattr(errors, code).__module__, "keptjoined.errors")
            self.assertEqual(getattr(errors, code).__name__, code)

    def test_the_code_is_the_name_of_the_class(self):
        for code, fields in FIELDS.items():
            error = getattr(errors, code)(*[SAMPLES[field] for field in fields])
            self.assertExactly(error.code, code)

    def test_the_attributes_follow_the_parameters(self):
        for code, fields in FIELDS.items():
            given = [SAMPLES[field] for field in fields]
            error = getattr(errors, code)(*given)
            self.assertEqual([getattr(error, field) for field in fields], given, code)

    def test_bad_text_does_not_mix_its_attributes(self):
        error = errors.BadText(3, 4, "less")
        self.assertExactly((error.row, error.column, error.fault), (3, 4, "less"))

    def test_an_attribute_is_the_very_value(self):
        for code in ["BadName", "NoHouse", "NoLine", "SelfLine", "Taken", "SamePart", "NoVersion", "NoStore"]:
            value = ["x"]
            self.assertIs(getattr(errors, code)(value).word, value)
        for code in ["BadNumber", "BadPlace", "NoRow", "NoPaper"]:
            value = {"x": 1}
            self.assertIs(getattr(errors, code)(value).number, value)
        for code in ["NoSeat", "SeatTaken"]:
            value = ("house", "a")
            self.assertIs(getattr(errors, code)(value).key, value)

    def test_an_error_can_be_raised_and_caught_by_its_base_classes(self):
        for base in (ValueError, errors.KeptError):
            with self.assertRaises(base):
                raise errors.NoLog()


if __name__ == "__main__":
    unittest.main()

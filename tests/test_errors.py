"""The refusals (point 2 and the interface of latewell/errors.py)."""

import unittest

from latewell import errors
from latewell.errors import Late, NoCell, NoComing, NoOrder, NoPaper, NoText, NoWorks, WellError

PLAIN = (NoComing, Late, NoCell, NoOrder)
WITH_FIELD = ((NoText, "at", 3), (NoWorks, "at", 0), (NoPaper, "name", "total"))


class Refusals(unittest.TestCase):
    def test_any_refusal_is_a_value_error(self):
        self.assertEqual(WellError.__bases__, (ValueError,))

    def test_each_class_stands_straight_under_the_one(self):
        for refusal in PLAIN + tuple(row[0] for row in WITH_FIELD):
            with self.subTest(refusal=refusal.__name__):
                self.assertEqual(refusal.__bases__, (WellError,))

    def test_there_are_no_other_classes(self):
        names = sorted(name for name, value in vars(errors).items() if isinstance(value, type))
        self.assertEqual(
            names, ["Late", "NoCell", "NoComing", "NoOrder", "NoPaper", "NoText", "NoWorks", "WellError"]
        )

    def test_plain_ones_are_raised_and_taken_by_name(self):
        for refusal in PLAIN:
            with self.subTest(refusal=refusal.__name__):
                with self.assertRaises(refusal):
                    raise refusal()
                with self.assertRaises(WellError):
                    raise refusal("some words")

    def test_fields(self):
        for refusal, field, value in WITH_FIELD:
            with self.subTest(refusal=refusal.__name__):
                with self.assertRaises(refusal) as taken:
                    raise refusal(value)
                self.assertEqual(vars(taken.exception), {field: value})
                self.assertEqual(vars(refusal(**{field: value})), {field: value})

    def test_a_field_must_be_told(self):
        for refusal, field, value in WITH_FIELD:
            with self.subTest(refusal=refusal.__name__):
                with self.assertRaises(TypeError):
                    refusal()


if __name__ == "__main__":
    unittest.main()

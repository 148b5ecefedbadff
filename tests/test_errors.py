"""The refusals."""

import unittest

from handedon import errors

NAMES = [
    "NoBook", "NoMost", "NoRule", "NoWorth", "Full", "NoGiver", "NoAsk", "NoCode", "NoKept", "NoRow", "NoText",
]


class ErrorsTest(unittest.TestCase):
    def test_any_refusal_is_a_value_error(self):
        self.assertEqual(errors.GiverError.__bases__, (ValueError,))

    def test_each_class_stands_straight_under_it(self):
        for name in NAMES:
            with self.subTest(name):
                self.assertEqual(getattr(errors, name).__bases__, (errors.GiverError,))

    def test_each_class_is_one_of_its_own(self):
        self.assertEqual(len({getattr(errors, name) for name in NAMES}), len(NAMES))

    def test_no_text_has_its_line(self):
        self.assertEqual(errors.NoText(7).at, 7)
        with self.assertRaises(errors.GiverError) as caught:
            raise errors.NoText(0)
        self.assertEqual(caught.exception.at, 0)

    def test_each_refusal_is_taken_as_any_refusal(self):
        for name in NAMES[:-1]:
            with self.subTest(name), self.assertRaises(errors.GiverError):
                raise getattr(errors, name)("why")


if __name__ == "__main__":
    unittest.main()

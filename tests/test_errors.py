"""The refusals: each straight under ShareError, none under another."""

import unittest

from roadshare import errors
from roadshare.errors import ShareError

NAMES = [
    "NoFraction", "NoTree", "NoPlace", "NoName", "NoPrice",
    "NoSharing", "TooMany", "NoDeed", "NoText",
]


class ErrorsTest(unittest.TestCase):
    def test_share_error_stands_straight_under_value_error(self):
        self.assertEqual(ShareError.__bases__, (ValueError,))

    def test_each_refusal_stands_straight_under_share_error(self):
        for name in NAMES:
            with self.subTest(name=name):
                self.assertEqual(getattr(errors, name).__bases__, (ShareError,))

    def test_the_refusals_are_called_as_they_are_imported(self):
        for name in NAMES + ["ShareError"]:
            with self.subTest(name=name):
                self.assertEqual(getattr(errors, name).__name__, name)

    def test_no_refusal_takes_another_one(self):
        for name in NAMES:
            for other in NAMES:
                with self.subTest(name=name, other=other):
                    takes = issubclass(getattr(errors, name), getattr(errors, other))
                    self.assertEqual(takes, name == other)

    def test_each_is_raised_with_words_and_taken_by_all_three_names(self):
        for name in NAMES:
            for taker in (getattr(errors, name), ShareError, ValueError):
                with self.subTest(name=name, taker=taker.__name__):
                    with self.assertRaises(taker) as caught:
                        raise getattr(errors, name)("some words")
                    self.assertEqual(str(caught.exception), "some words")


if __name__ == "__main__":
    unittest.main()

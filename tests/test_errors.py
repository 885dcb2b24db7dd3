import unittest

from endless import errors

REFUSALS = [
    "NoNatural", "BelowNought", "NoCount", "ByNought", "NoWay", "NoChain",
    "NoRoot", "NoBase", "NoDigit", "TooLong", "NoText", "NoName",
]


class ErrorsTest(unittest.TestCase):
    def test_number_error_stands_under_value_error(self):
        self.assertEqual(errors.NumberError.__bases__, (ValueError,))

    def test_each_refusal_stands_straight_under_number_error(self):
        for name in REFUSALS:
            with self.subTest(name):
                self.assertEqual(getattr(errors, name).__bases__, (errors.NumberError,))

    def test_none_stands_under_another(self):
        for name in REFUSALS:
            for other in REFUSALS:
                with self.subTest(name, other=other):
                    under = issubclass(getattr(errors, name), getattr(errors, other))
                    self.assertEqual(under, name == other)

    def test_each_is_called_as_the_document_calls_it(self):
        for name in REFUSALS + ["NumberError"]:
            with self.subTest(name):
                self.assertEqual(getattr(errors, name).__name__, name)

    def test_each_can_be_raised_and_taken(self):
        for name in REFUSALS:
            with self.subTest(name), self.assertRaises(errors.NumberError):
                raise getattr(errors, name)("words")


if __name__ == "__main__":
    unittest.main()

import unittest

from lassoscribe import errors

NAMES = ["NoMoment", "NoRun", "NoSentence", "NoMachine", "TooMuch", "NoText", "NoName", "NoRow"]


class ErrorsTest(unittest.TestCase):
    def test_scribe_error_stands_under_value_error(self):
        self.assertTrue(issubclass(errors.ScribeError, ValueError))
        self.assertIsNot(errors.ScribeError, ValueError)

    def test_each_refusal_stands_straight_under_scribe_error(self):
        for name in NAMES:
            with self.subTest(name):
                refusal = getattr(errors, name)
                self.assertEqual(refusal.__bases__, (errors.ScribeError,))
                self.assertEqual(refusal.__name__, name)

    def test_none_stands_under_another(self):
        for name in NAMES:
            for other in NAMES:
                if name != other:
                    with self.subTest(name + " under " + other):
                        self.assertFalse(issubclass(getattr(errors, name), getattr(errors, other)))

    def test_each_is_raised_with_words_and_taken_as_scribe_error(self):
        for name in NAMES:
            with self.subTest(name), self.assertRaises(errors.ScribeError) as taken:
                raise getattr(errors, name)("these words")
            self.assertEqual(str(taken.exception), "these words")


if __name__ == "__main__":
    unittest.main()

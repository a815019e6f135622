import unittest

from onehue import errors

REFUSALS = ["NoKind", "NoSize", "NoHues", "NoDyeing", "TooMuch"]


class TestErrors(unittest.TestCase):
    def test_hue_error_stands_straight_under_value_error(self):
        self.assertEqual(errors.HueError.__bases__, (ValueError,))

    def test_each_refusal_stands_straight_under_hue_error(self):
        for name in REFUSALS:
            with self.subTest(name):
                self.assertEqual(getattr(errors, name).__bases__, (errors.HueError,))

    def test_each_class_bears_its_own_name(self):
        for name in ["HueError"] + REFUSALS:
            with self.subTest(name):
                self.assertEqual(getattr(errors, name).__name__, name)

    def test_no_refusal_is_of_another_ones_class(self):
        for one in REFUSALS:
            for other in REFUSALS:
                with self.subTest(one=one, other=other):
                    under = issubclass(getattr(errors, one), getattr(errors, other))
                    self.assertEqual(under, one == other)

    def test_each_can_be_raised_with_words_and_taken_as_any_refusal(self):
        for name in REFUSALS:
            with self.subTest(name):
                with self.assertRaises(errors.HueError) as caught:
                    raise getattr(errors, name)("words")
                self.assertIs(type(caught.exception), getattr(errors, name))


if __name__ == "__main__":
    unittest.main()

import unittest

from cornerfill.errors import BadGap, BadSides, FillError, HasGaps, NoText, NotOneGap, TooMany

REFUSALS = (BadSides, BadGap, NotOneGap, HasGaps, TooMany, NoText)


class ErrorClasses(unittest.TestCase):
    def test_fill_error_is_a_value_error(self):
        self.assertEqual(FillError.__bases__, (ValueError,))

    def test_each_refusal_is_under_fill_error(self):
        for refusal in REFUSALS:
            with self.subTest(refusal=refusal.__name__):
                self.assertTrue(issubclass(refusal, FillError))
                self.assertTrue(issubclass(refusal, ValueError))
                self.assertIsNot(refusal, FillError)

    def test_no_refusal_is_under_another(self):
        for one in REFUSALS:
            for other in REFUSALS:
                if one is not other:
                    with self.subTest(one=one.__name__, other=other.__name__):
                        self.assertFalse(issubclass(one, other))

    def test_six_classes_under_their_own_names(self):
        names = [refusal.__name__ for refusal in REFUSALS]
        self.assertEqual(names, ["BadSides", "BadGap", "NotOneGap", "HasGaps", "TooMany", "NoText"])
        self.assertEqual(len(set(REFUSALS)), 6)

    def test_each_is_raised_and_caught_as_a_fill_error(self):
        for refusal in REFUSALS:
            with self.subTest(refusal=refusal.__name__):
                with self.assertRaises(FillError) as caught:
                    raise refusal("some words")
                self.assertIs(type(caught.exception), refusal)


if __name__ == "__main__":
    unittest.main()

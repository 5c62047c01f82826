import unittest

from stairrows import errors
from stairrows.errors import NoNote, NoPair, NoPlace, NoShape, NoStairs, StairError

REFUSALS = (NoStairs, NoPair, NoPlace, NoShape, NoNote)


class ErrorsTest(unittest.TestCase):
    def test_stair_error_is_a_value_error(self):
        self.assertEqual(StairError.__bases__, (ValueError,))

    def test_each_refusal_is_a_stair_error(self):
        for refusal in REFUSALS:
            self.assertTrue(issubclass(refusal, StairError), refusal)
            self.assertTrue(issubclass(refusal, ValueError), refusal)

    def test_none_is_under_another(self):
        for refusal in REFUSALS:
            for other in REFUSALS:
                if refusal is not other:
                    self.assertFalse(issubclass(refusal, other), (refusal, other))

    def test_names(self):
        for refusal in REFUSALS + (StairError,):
            self.assertIs(getattr(errors, refusal.__name__), refusal)

    def test_a_refusal_can_be_raised_and_taken(self):
        for refusal in REFUSALS:
            with self.assertRaises(StairError):
                raise refusal("some words")


if __name__ == "__main__":
    unittest.main()

import unittest

from evenmix import errors
from helper import REFUSALS


class Errors(unittest.TestCase):
    def test_mix_error_stands_straight_under_value_error(self):
        self.assertEqual(errors.MixError.__bases__, (ValueError,))

    def test_thirteen_classes_none_under_another(self):
        self.assertEqual(len(set(REFUSALS)), 13)
        for one in REFUSALS:
            self.assertTrue(issubclass(getattr(errors, one), errors.MixError))
            self.assertIsNot(getattr(errors, one), errors.MixError)
            for other in REFUSALS:
                if one != other:
                    self.assertFalse(issubclass(getattr(errors, one), getattr(errors, other)), (one, other))

    def test_each_is_raised_and_taken(self):
        for name in REFUSALS:
            for wide in (getattr(errors, name), errors.MixError, ValueError):
                with self.assertRaises(wide) as caught:
                    raise getattr(errors, name)("words")
                self.assertEqual(str(caught.exception), "words")


if __name__ == "__main__":
    unittest.main()

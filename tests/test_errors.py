"""The refusals, and which stands under which."""

import unittest

from everyplace.errors import FormError, NoRow, NoStep, NoText, TooGreat

REFUSALS = (TooGreat, NoText, NoRow, NoStep)


class Errors(unittest.TestCase):
    def test_any_refusal_is_a_value_error(self):
        self.assertTrue(issubclass(FormError, ValueError))
        self.assertIsNot(FormError, ValueError)

    def test_each_refusal_stands_under_form_error(self):
        for refusal in REFUSALS:
            self.assertTrue(issubclass(refusal, FormError), refusal)
            self.assertIsNot(refusal, FormError)
            self.assertFalse(issubclass(FormError, refusal), refusal)

    def test_none_stands_under_another(self):
        for one in REFUSALS:
            for other in REFUSALS:
                self.assertEqual(issubclass(one, other), one is other, (one, other))

    def test_each_is_called_as_told(self):
        names = [refusal.__name__ for refusal in (FormError,) + REFUSALS]
        self.assertEqual(names, ["FormError", "TooGreat", "NoText", "NoRow", "NoStep"])

    def test_each_is_raised_and_taken(self):
        for refusal in REFUSALS:
            with self.assertRaises(refusal):
                raise refusal("words")
            with self.assertRaises(FormError):
                raise refusal("words")
            with self.assertRaises(ValueError):
                raise refusal()


if __name__ == "__main__":
    unittest.main()

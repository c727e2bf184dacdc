import unittest

from turnbase import errors

REFUSALS = (
    "NoTurning", "NoText", "NoRecipe", "NoGroup", "NoNumber", "NotIn",
    "TooMany", "NoThing", "NotPart", "NoName", "NoLine",
)


class ErrorsTest(unittest.TestCase):
    def test_any_refusal_is_a_value_error(self):
        self.assertEqual(errors.TurnError.__bases__, (ValueError,))

    def test_each_refusal_stands_straight_under_turn_error(self):
        for name in REFUSALS:
            with self.subTest(name):
                self.assertEqual(getattr(errors, name).__bases__, (errors.TurnError,))

    def test_no_refusal_stands_under_another(self):
        for name in REFUSALS:
            for other in REFUSALS:
                under = issubclass(getattr(errors, name), getattr(errors, other))
                self.assertEqual(under, name == other, (name, other))

    def test_each_is_raised_and_taken_by_name(self):
        for name in REFUSALS:
            with self.assertRaises(errors.TurnError) as taken:
                raise getattr(errors, name)("words")
            self.assertEqual(type(taken.exception).__name__, name)
            self.assertEqual(str(taken.exception), "words")

"""Point 2 and the interface: each refusal stands under the base, none under another."""

import unittest

from gaze import errors

REFUSALS = [
    "NoRatio", "NoStretch", "NoGauge", "OffGauge", "NoSills", "NoBoard", "NoTelling",
    "NoClaim", "NoEvent", "TooMany", "NoRule", "NoAlarm", "NoRow", "NoName",
]


class ErrorsTest(unittest.TestCase):
    def test_base_stands_under_value_error(self):
        self.assertTrue(issubclass(errors.GazeError, ValueError))

    def test_each_refusal_stands_under_the_base(self):
        self.assertEqual(len(REFUSALS), 14)
        for name in REFUSALS:
            with self.subTest(name=name):
                refusal = getattr(errors, name)
                self.assertEqual(refusal.__name__, name)
                self.assertTrue(issubclass(refusal, errors.GazeError))
                self.assertTrue(issubclass(refusal, ValueError))
                self.assertIsNot(refusal, errors.GazeError)

    def test_no_refusal_stands_under_another(self):
        for name in REFUSALS:
            for other in REFUSALS:
                if name != other:
                    with self.subTest(name=name, other=other):
                        self.assertFalse(issubclass(getattr(errors, name), getattr(errors, other)))

    def test_each_refusal_can_be_raised_and_taken_by_either_name(self):
        for name in REFUSALS:
            with self.subTest(name=name):
                with self.assertRaises(errors.GazeError):
                    raise getattr(errors, name)("words")
                with self.assertRaises(ValueError):
                    raise getattr(errors, name)("words")


if __name__ == "__main__":
    unittest.main()

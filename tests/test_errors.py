import unittest

from probewell import errors

NAMES = [
    "NoMachine", "NoState", "NoProbe", "NoAnswers", "NoSize", "Unfit",
    "TooMuch", "Unsteady", "Ended", "NoText", "NoRow", "NoName",
]


class Refusals(unittest.TestCase):
    def test_any_refusal_is_a_value_error(self):
        self.assertEqual(errors.ProbeError.__bases__, (ValueError,))

    def test_each_stands_straight_under_probe_error(self):
        for name in NAMES:
            with self.subTest(name):
                self.assertEqual(getattr(errors, name).__bases__, (errors.ProbeError,))

    def test_none_stands_under_another_one(self):
        for one in NAMES:
            for other in NAMES:
                under = issubclass(getattr(errors, one), getattr(errors, other))
                self.assertEqual(under, one == other, (one, other))

    def test_each_is_called_by_its_name(self):
        for name in NAMES + ["ProbeError"]:
            with self.subTest(name):
                self.assertEqual(getattr(errors, name).__name__, name)

    def test_each_is_raised_and_taken(self):
        for name in NAMES:
            with self.subTest(name):
                with self.assertRaises(errors.ProbeError) as caught:
                    raise getattr(errors, name)("some words")
                self.assertEqual(str(caught.exception), "some words")


if __name__ == "__main__":
    unittest.main()

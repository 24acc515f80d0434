import unittest

from sliderings import errors

NAMES = ("NoRule", "NoRow", "Broken", "NoSize", "NoNumber", "NotRead")


class Errors(unittest.TestCase):
    def test_any_refusal_is_a_value_error(self):
        self.assertTrue(issubclass(errors.SlideError, ValueError))

    def test_each_refusal_stands_straight_under_slide_error(self):
        for name in NAMES:
            with self.subTest(name=name):
                refusal = getattr(errors, name)
                self.assertEqual(refusal.__bases__, (errors.SlideError,))
                self.assertEqual(refusal.__name__, name)

    def test_each_refusal_is_a_class_of_its_own(self):
        self.assertEqual(len({getattr(errors, name) for name in NAMES}), len(NAMES))

    def test_each_refusal_can_be_raised(self):
        for name in NAMES:
            with self.subTest(name=name):
                with self.assertRaises(errors.SlideError):
                    raise getattr(errors, name)("words")


if __name__ == "__main__":
    unittest.main()

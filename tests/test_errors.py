"""The refusals [2]."""

import unittest

from callwheel import errors

NAMES = ("NoTown", "NoBox", "NoLoop", "NoStretch", "NoDeed", "NoCards", "NoCall", "NoText", "NoRow")


class Errors(unittest.TestCase):
    def test_base_is_under_value_error(self):
        self.assertTrue(issubclass(errors.WheelError, ValueError))

    def test_each_is_straight_under_the_base(self):
        for name in NAMES:
            with self.subTest(name=name):
                self.assertEqual(getattr(errors, name).__bases__, (errors.WheelError,))

    def test_none_is_under_another(self):
        for name in NAMES:
            for other in NAMES:
                with self.subTest(name=name, other=other):
                    under = issubclass(getattr(errors, name), getattr(errors, other))
                    self.assertEqual(under, name == other)

    def test_each_is_caught_as_the_base_and_as_value_error(self):
        for name in NAMES:
            refusal = getattr(errors, name)
            for caught in (refusal, errors.WheelError, ValueError):
                with self.subTest(name=name, caught=caught):
                    with self.assertRaises(caught):
                        raise refusal("why")


if __name__ == "__main__":
    unittest.main()

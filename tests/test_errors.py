"""The interface: errors.py."""

import unittest

from probeties import errors

BELOW = ("NoTie", "NoRoute", "NoSuspect", "NoStep", "NoText")


class ErrorsTest(unittest.TestCase):
    def test_any_refusal_is_a_value_error(self):
        self.assertEqual(errors.ProbeError.__bases__, (ValueError,))

    def test_each_stands_below_probe_error(self):
        for name in BELOW:
            self.assertTrue(issubclass(getattr(errors, name), errors.ProbeError), name)

    def test_none_stands_below_another(self):
        for name in BELOW:
            for other in BELOW:
                if name != other:
                    self.assertFalse(issubclass(getattr(errors, name), getattr(errors, other)), (name, other))

    def test_probe_error_is_none_of_them(self):
        for name in BELOW:
            self.assertFalse(issubclass(errors.ProbeError, getattr(errors, name)), name)


if __name__ == "__main__":
    unittest.main()

"""The interface's error classes and how they stand to each other."""

import unittest

from benchends import errors

NAMES = [
    "NoWorld", "NoOrder", "NoLengths", "NoWork", "NoSide", "Never",
    "TooMany", "NoStep", "NoNumber", "NoRow", "NoText",
]


class ErrorsTest(unittest.TestCase):
    def test_bench_error_stands_straight_under_value_error(self):
        self.assertEqual(errors.BenchError.__bases__, (ValueError,))

    def test_each_class_stands_straight_under_bench_error(self):
        for name in NAMES:
            with self.subTest(name):
                self.assertEqual(getattr(errors, name).__bases__, (errors.BenchError,))

    def test_each_class_bears_its_name(self):
        for name in NAMES + ["BenchError"]:
            with self.subTest(name):
                self.assertEqual(getattr(errors, name).__name__, name)

    def test_none_stands_under_another(self):
        for one in NAMES:
            for other in NAMES:
                with self.subTest(one=one, other=other):
                    under = issubclass(getattr(errors, one), getattr(errors, other))
                    self.assertEqual(under, one == other)


if __name__ == "__main__":
    unittest.main()

"""The error classes: their bases and their attributes."""

import unittest

from lostleast import errors
from lostleast.ratio import Ratio

NAMES = ("BadText", "BadPlan", "BadPaper", "NoShare", "TooLarge", "NoPlan", "BadRatio")


class ErrorsTest(unittest.TestCase):

    def test_loss_error_is_a_value_error(self):
        self.assertTrue(issubclass(errors.LossError, ValueError))
        self.assertIsNot(errors.LossError, ValueError)

    def test_each_class_is_a_loss_error(self):
        for name in NAMES:
            with self.subTest(name):
                self.assertTrue(issubclass(getattr(errors, name), errors.LossError))
                self.assertIsNot(getattr(errors, name), errors.LossError)

    def test_none_is_a_base_of_another(self):
        for name in NAMES:
            for other in NAMES:
                if name != other:
                    with self.subTest(name, other=other):
                        self.assertFalse(issubclass(getattr(errors, name), getattr(errors, other)))

    def test_each_class_is_defined_in_errors(self):
        for name in ("LossError",) + NAMES:
            with self.subTest(name):
                self.assertEqual(getattr(errors, name).__module__, "lostleast.errors")

    def test_at(self):
        for name in ("BadText", "BadPlan", "BadPaper"):
            with self.subTest(name):
                self.assertEqual(getattr(errors, name)(0).at, 0)
                self.assertEqual(getattr(errors, name)(7).at, 7)

    def test_what(self):
        for name, what in (("NoShare", "negative"), ("NoShare", "nothing"),
                           ("TooLarge", "nodes"), ("TooLarge", "comings")):
            with self.subTest(name, what=what):
                self.assertEqual(getattr(errors, name)(what).what, what)

    def test_least(self):
        least = errors.NoPlan(Ratio(2, 6)).least
        self.assertIsInstance(least, Ratio)
        self.assertEqual((least.num, least.den), (1, 3))

    def test_errors_are_caught_by_their_bases(self):
        for base in (errors.BadText, errors.LossError, ValueError):
            with self.subTest(base=base.__name__):
                with self.assertRaises(base):
                    raise errors.BadText(3)

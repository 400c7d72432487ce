"""The refusals: their classes, where they stand, and their values."""

import unittest

from dockethall import errors
from helper import REFUSALS, VALUES


class Classes(unittest.TestCase):
    def test_hall_error_stands_straight_under_value_error(self):
        self.assertEqual(errors.HallError.__bases__, (ValueError,))

    def test_each_stands_straight_under_hall_error(self):
        for name in REFUSALS:
            with self.subTest(name):
                self.assertEqual(getattr(errors, name).__bases__, (errors.HallError,))

    def test_none_is_another_one(self):
        for name in REFUSALS:
            others = [getattr(errors, other) for other in REFUSALS if other != name]
            self.assertFalse(issubclass(getattr(errors, name), tuple(others)), name)

    def test_each_has_its_own_name(self):
        self.assertEqual([getattr(errors, name).__name__ for name in REFUSALS], list(REFUSALS))


class Made(unittest.TestCase):
    def test_those_without_a_value_are_made_with_words_or_without(self):
        for name in REFUSALS:
            if name not in VALUES:
                for made in (getattr(errors, name)(), getattr(errors, name)("words")):
                    self.assertIsInstance(made, errors.HallError)
                    self.assertIsInstance(made, ValueError)

    def test_values_are_what_they_were_made_of(self):
        for name, value in VALUES.items():
            for thing in ("doors", 0, 17, None, [1, 2], (1, 2)):
                with self.subTest(name, thing=thing):
                    self.assertEqual(getattr(getattr(errors, name)(thing), value), thing)

    def test_they_are_made_of_just_one_thing(self):
        for name in VALUES:
            with self.assertRaises(TypeError):
                getattr(errors, name)()
            with self.assertRaises(TypeError):
                getattr(errors, name)(1, 2)

    def test_raised_and_taken_with_the_value(self):
        for name, value in VALUES.items():
            with self.assertRaises(ValueError) as caught:
                raise getattr(errors, name)("thing")
            self.assertEqual(getattr(caught.exception, value), "thing")

    def test_a_flow_is_not_kept(self):
        flow = [2, 0, 4]
        error = errors.Endless(flow)
        flow[0] = 9
        flow.append(1)
        self.assertEqual(error.flow, [2, 0, 4])
        error.flow.append(7)
        self.assertEqual(flow, [9, 0, 4, 1])


if __name__ == "__main__":
    unittest.main()

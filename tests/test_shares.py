"""Whole numbers and fractions (points 2 and 5)."""

import math
import unittest
from fractions import Fraction

from dockethall.shares import added, floor_of, is_whole, parted, share, taken, timed, under
from helper import HUGE, listed_things, numbers_in_turn, odd_things, refused, texts

SMALL = range(-12, 13)
GREAT = numbers_in_turn(60, -(10 ** 60) + 1, 10 ** 60 - 1) + [10 ** 59, -(10 ** 59), 10 ** 60 - 1, 1 - 10 ** 60]


def as_pair(fraction):
    return (fraction.numerator, fraction.denominator)


def some_shares():
    pairs = [(top, bottom) for top in range(-5, 6) for bottom in range(1, 5) if math.gcd(top, bottom) == 1]
    tops = numbers_in_turn(12, -(10 ** 60) + 1, 10 ** 60 - 1, seed=2)
    bottoms = numbers_in_turn(12, 1, 10 ** 60 - 1, seed=3)
    return pairs + [as_pair(Fraction(top, bottom)) for top, bottom in zip(tops, bottoms)]


class Whole(unittest.TestCase):
    def test_ints(self):
        for number in (0, 1, -1, 9, 10 ** 60, -(10 ** 60), HUGE):
            self.assertIs(is_whole(number), True)

    def test_truths_and_others(self):
        for thing in odd_things() + listed_things() + texts():
            self.assertIs(is_whole(thing), False)


class Shares(unittest.TestCase):
    def check(self, top, bottom):
        told = share(top, bottom)
        self.assertIs(type(told), tuple)
        self.assertEqual(told, as_pair(Fraction(top, bottom)))
        self.assertGreaterEqual(told[1], 1)
        self.assertEqual(math.gcd(told[0], told[1]), 1)

    def test_as_written_out(self):
        self.assertEqual(share(6, 4), (3, 2))
        self.assertEqual(share(-6, 4), (-3, 2))
        self.assertEqual(share(6, -4), (-3, 2))
        self.assertEqual(share(-6, -4), (3, 2))
        self.assertEqual(share(7, 7), (1, 1))
        self.assertEqual(share(1, 12), (1, 12))

    def test_nought(self):
        for bottom in (1, -1, 7, -7, 10 ** 59, -(10 ** 59)):
            self.assertEqual(share(0, bottom), (0, 1))
        self.assertEqual(share(0), (0, 1))

    def test_bottom_left_out(self):
        for top in list(SMALL) + GREAT:
            self.assertEqual(share(top), (top, 1))

    def test_small(self):
        for top in SMALL:
            for bottom in SMALL:
                if bottom != 0:
                    self.check(top, bottom)

    def test_great(self):
        for top, bottom in zip(GREAT, reversed(GREAT)):
            self.check(top, bottom)
            self.check(top * 12, bottom * 18)
            self.check(top, 6)
            self.check(6, bottom)

    def test_common_divisors_of_many_figures(self):
        common = 10 ** 29 + 7
        self.assertEqual(share(3 * common, -5 * common), (-3, 5))
        self.assertEqual(share(10 ** 59, 10 ** 58), (10, 1))

    def test_bottom_nought(self):
        for top in (0, 1, -1, 10 ** 59):
            refused(self, "NoShare", share, top, 0)

    def test_no_whole_numbers(self):
        for thing in odd_things() + listed_things() + texts():
            refused(self, "NoShare", share, thing)
            refused(self, "NoShare", share, thing, 1)
            refused(self, "NoShare", share, thing, 0)
            refused(self, "NoShare", share, 1, thing)
            refused(self, "NoShare", share, 0, thing)
            refused(self, "NoShare", share, thing, thing)

    def test_numbers_of_very_many_figures(self):
        self.assertEqual(share(HUGE, HUGE), (1, 1))
        refused(self, "NoShare", share, HUGE, 0)


class Reckoning(unittest.TestCase):
    def each_two(self, call, wanted):
        shares = some_shares()
        for one in shares:
            for other in shares:
                told = call(one, other)
                self.assertIs(type(told), tuple)
                self.assertEqual(told, as_pair(wanted(Fraction(*one), Fraction(*other))))

    def test_sums(self):
        self.assertEqual(added((1, 2), (1, 3)), (5, 6))
        self.assertEqual(added((1, 2), (-1, 2)), (0, 1))
        self.each_two(added, lambda one, other: one + other)

    def test_differences(self):
        self.assertEqual(taken((1, 2), (1, 3)), (1, 6))
        self.assertEqual(taken((1, 3), (1, 2)), (-1, 6))
        self.each_two(taken, lambda one, other: one - other)

    def test_products(self):
        self.assertEqual(timed((2, 3), (3, 4)), (1, 2))
        self.assertEqual(timed((2, 3), (0, 1)), (0, 1))
        self.each_two(timed, lambda one, other: one * other)

    def test_quotients(self):
        self.assertEqual(parted((1, 2), (-3, 4)), (-2, 3))
        self.assertEqual(parted((0, 1), (-3, 4)), (0, 1))
        for one in some_shares():
            for other in some_shares():
                if other[0] != 0:
                    self.assertEqual(parted(one, other), as_pair(Fraction(*one) / Fraction(*other)))

    def test_quotients_by_nought(self):
        for one in some_shares():
            refused(self, "NoShare", parted, one, (0, 1))

    def test_order(self):
        for one in some_shares():
            for other in some_shares():
                self.assertIs(under(one, other), Fraction(*one) < Fraction(*other))
        self.assertIs(under((1, 2), (1, 2)), False)
        self.assertIs(under((-1, 2), (-1, 3)), True)

    def test_floor(self):
        for one in some_shares():
            self.assertEqual(floor_of(one), math.floor(Fraction(*one)))
        self.assertEqual(floor_of((7, 2)), 3)
        self.assertEqual(floor_of((-7, 2)), -4)
        self.assertEqual(floor_of((-8, 1)), -8)
        self.assertEqual(floor_of((0, 1)), 0)
        self.assertIs(type(floor_of((7, 2))), int)


if __name__ == "__main__":
    unittest.main()

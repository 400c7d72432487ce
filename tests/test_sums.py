"""Sums: what is one, and its value (points 2 and 23)."""

import unittest

from dockethall.sums import is_sum, value
from helper import Stubborn, listed_things, made_up_sum, numbers_in_turn, odd_things, row_of, texts, within

A = ("name", "a")
B = ("name", "b")
SHARE = ("share", 1, 4)
TIMES = ("times", 9)


def each_form():
    return [A, ("times", 3, A), ("plus", A, B), ("share", A, 1, 2)]


class IsSum(unittest.TestCase):
    def check_all(self, things, wanted):
        for thing in things:
            with self.subTest(thing=thing if not isinstance(thing, Stubborn) else "stubborn"):
                self.assertIs(is_sum(thing), wanted)

    def test_each_form(self):
        self.check_all(each_form(), True)

    def test_each_form_within_each(self):
        for inner in each_form():
            self.check_all([("times", 0, inner), ("plus", inner, A), ("plus", A, inner), ("plus", inner, inner),
                            ("share", inner, 0, 1)], True)

    def test_names(self):
        self.check_all([("name", name) for name in ("a", "z", "name", "times", "plus", "share", "abcdef", "zzzzzz")],
                       True)
        wrong = ["", "abcdefg", "A", "aB", "a b", "a ", " a", "a1", "1", "a_", "\u00e4", "\u00df", "a\n", "+", None, 1,
                 True, A,
                 ["a"], ("a",), b"a", Stubborn()]
        self.check_all([("name", name) for name in wrong], False)

    def test_times(self):
        self.check_all([("times", k, A) for k in range(10)], True)
        wrong = [-1, 10, 11, 10 ** 30, -10 ** 30, True, False, None, "3", 3.0, A, [], (), Stubborn()]
        self.check_all([("times", k, A) for k in wrong], False)

    def test_shares(self):
        self.check_all([("share", A, c, d) for d in range(1, 13) for c in range(d)], True)
        for d in range(-1, 15):
            self.check_all([("share", A, c, d) for c in (-2, -1, d, d + 1, 10 ** 30)], False)
        self.check_all([("share", A, 0, d) for d in (-1, 0, 13, 14, 10 ** 30)], False)
        wrong = [True, False, None, "1", 1.0, A, [], (), Stubborn()]
        self.check_all([("share", A, 0, d) for d in wrong], False)
        self.check_all([("share", A, c, 12) for c in wrong], False)

    def test_a_wrong_sum_in_each_place(self):
        wrong = ["a", "", None, 1, True, (), [], {}, ["name", "a"], ("name",), ("a",), ("name", "a", "b"), ("name", ""),
                 ("times", 10, A), Stubborn()]
        for inner in wrong:
            self.check_all([("times", 3, inner), ("plus", inner, A), ("plus", A, inner), ("share", inner, 1, 2),
                            ("share", ("times", 3, ("plus", A, inner)), 1, 2)], False)

    def test_lists_in_the_place_of_tuples(self):
        for one in each_form():
            self.check_all([list(one), ("times", 3, list(one)), ("plus", A, list(one)), ("plus", list(one), A),
                            ("share", list(one), 1, 2)], False)

    def test_tuples_too_short_or_too_long(self):
        for one in each_form():
            for length in range(len(one)):
                self.check_all([one[:length], ("plus", one[:length], A)], False)
            for more in (None, 1, "a", A, ()):
                self.check_all([one + (more,), ("plus", A, one + (more,))], False)

    def test_words_that_are_none(self):
        for one in each_form():
            wrong = ["", "Name", "names", "time", "plus ", " share", "minus", "PLUS", None, 1, True, A, (), ["plus"],
                     Stubborn()]
            self.check_all([(word,) + one[1:] for word in wrong], False)

    def test_parts_in_another_order(self):
        self.check_all([("a", "name"), ("times", A, 3), ("share", 1, 2, A), ("share", A, 2, 1), ("share", 1, A, 2)],
                       False)

    def test_other_things(self):
        self.check_all(odd_things() + listed_things() + texts() + [0, 1, -1, 10 ** 30, {"name": "a"}, "name", "a + b"],
                       False)

    def test_40_parts_and_41(self):
        deep = [[SHARE], [TIMES], [SHARE, TIMES], [("plus", B)], [("plus", B), SHARE]]
        for outers in deep:
            for parts in range(1, 48):
                outer = (outers * 50)[:parts - 1]
                many = 1 + sum(2 if each[0] == "plus" else 1 for each in outer)
                self.assertIs(is_sum(within(A, *outer)), many <= 40, many)
        for left in (True, False):
            for names in range(1, 30):
                one = row_of(A, names, left)
                self.assertIs(is_sum(one), names <= 20)
                self.assertIs(is_sum(("times", 1, one)), names <= 20)
                self.assertIs(is_sum(("times", 1, ("times", 1, one))), names <= 19)

    def test_made_up_ones_by_their_parts(self):
        for parts in list(range(1, 50)) * 4:
            numbers = iter(numbers_in_turn(300, 0, 10 ** 9, parts))
            self.assertIs(is_sum(made_up_sum(numbers, parts, "abcdef")), parts <= 40, parts)

    def test_a_part_counts_as_often_as_it_stands_there(self):
        one = A
        for parts in (1, 3, 7, 15, 31, 63, 127):
            self.assertIs(is_sum(one), parts <= 40)
            one = ("plus", one, one)
        eight = within(A, *[TIMES] * 7)
        self.assertIs(is_sum(row_of(eight, 4)), True)
        self.assertIs(is_sum(row_of(eight, 5)), False)

    def test_far_deeper_and_broader_ones(self):
        one, two, three = A, A, A
        for step in range(60):
            two = ("plus", two, two)
        for step in range(100000):
            one = ("times", 1, one)
            three = ("plus", A, three)
        for thing in (one, two, three):
            self.assertIs(is_sum(thing), False)


class Value(unittest.TestCase):
    def test_name(self):
        for amount in (0, 1, 7, 10 ** 9, 10 ** 59):
            self.assertEqual(value(A, {"a": amount}), amount)
            self.assertEqual(value(A, {"b": 3, "a": amount, "c": 5}), amount)

    def test_times(self):
        for k in range(10):
            for amount in (0, 1, 7, 10 ** 59):
                self.assertEqual(value(("times", k, A), {"a": amount}), k * amount)

    def test_plus(self):
        for amount in (0, 1, 7, 10 ** 59):
            self.assertEqual(value(("plus", A, B), {"a": amount, "b": 3}), amount + 3)
            self.assertEqual(value(("plus", B, A), {"a": amount, "b": 3}), amount + 3)
            self.assertEqual(value(("plus", A, A), {"a": amount}), 2 * amount)

    def test_share(self):
        for d in range(1, 13):
            for c in range(d):
                for amount in list(range(30)) + [10 ** 59, 10 ** 59 + 1]:
                    told = value(("share", A, c, d), {"a": amount})
                    self.assertTrue(told * d <= amount + c < (told + 1) * d)

    def test_one_within_another(self):
        amounts = {"a": 10, "b": 7, "c": 0}
        for one, wanted in (
            (("times", 2, ("plus", A, B)), 34),
            (("plus", ("times", 2, A), B), 27),
            (("share", ("plus", A, B), 0, 4), 4),
            (("share", ("plus", A, B), 3, 4), 5),
            (("plus", ("share", A, 0, 4), ("share", B, 0, 4)), 3),
            (("times", 3, ("share", A, 1, 4)), 6),
            (("share", ("times", 3, A), 1, 4), 7),
            (("share", ("share", A, 1, 2), 0, 5), 1),
            (("share", ("share", A, 0, 5), 1, 2), 1),
            (("plus", ("times", 2, ("plus", A, B)), ("share", ("times", 3, A), 1, 4)), 41),
            (("plus", A, ("plus", B, ("name", "c"))), 17),
            (("times", 9, ("times", 0, A)), 0),
            (("share", ("times", 0, A), 11, 12), 0),
            (("times", 9, ("times", 9, ("times", 9, B))), 5103),
        ):
            self.assertEqual(value(one, amounts), wanted)

    def test_of_0_all_is_0(self):
        for parts in range(1, 41):
            one = made_up_sum(iter(numbers_in_turn(300, 0, 10 ** 9, parts)), parts, "abc")
            self.assertEqual(value(one, {"a": 0, "b": 0, "c": 0}), 0)

    def test_great_ones_and_40_parts(self):
        self.assertEqual(value(within(A, *[TIMES] * 39), {"a": 10 ** 59}), 9 ** 39 * 10 ** 59)
        self.assertEqual(value(row_of(A, 20), {"a": 10 ** 59}), 20 * 10 ** 59)
        self.assertEqual(value(row_of(A, 20, False), {"a": 10 ** 59}), 20 * 10 ** 59)
        self.assertEqual(value(within(A, *[("share", 0, 12)] * 39), {"a": 12 ** 39 * 5}), 5)
        self.assertEqual(value(within(A, *[("share", 0, 12)] * 39), {"a": 12 ** 39 * 5 - 1}), 4)
        self.assertEqual(value(within(A, *[("share", 11, 12)] * 39), {"a": 1}), 1)

    def test_the_amounts_stay(self):
        amounts = {"c": 4, "a": 1, "b": 2}
        value(("plus", ("times", 3, A), ("share", B, 1, 2)), amounts)
        self.assertEqual(list(amounts.items()), [("c", 4), ("a", 1), ("b", 2)])


if __name__ == "__main__":
    unittest.main()

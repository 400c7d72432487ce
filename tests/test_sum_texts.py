"""The texts of sums (points 2 and 24)."""

import re
import unittest

from dockethall.sums import is_sum, read_sum, shown
from helper import listed_things, made_up_sum, numbers_in_turn, odd_things, refused, row_of, within

A, B, C = ("name", "a"), ("name", "b"), ("name", "c")

NAME = "(?<![a-z])[a-z]{1,6}(?![a-z])"
# N stands for a name or a share, P for a plus in brackets, T for a "times" in brackets.
TERM = "(?:N|[0-9] [NPT])"
SHARED = " : ([0-9]|1[01]) / ([1-9]|1[0-2])"


def writes_a_sum(text):
    """By the words of the document: what stands in the innermost brackets is taken for one sign, again and again."""
    if re.search("[^a-z0-9()\\[\\]+:/ ]", text):
        return False
    parts = len(re.findall("[a-z]+|\\[| \\+ |[0-9] (?=[a-z(\\[])", text))
    text = re.sub(NAME, "N", text)
    before = None
    while before != text:
        before = text
        text = re.sub(f"\\({TERM}(?: \\+ (?:{TERM}|P))+\\)", "P", text)
        text = re.sub("\\([0-9] [NPT]\\)", "T", text)
        text = re.sub(f"\\[{TERM}(?: \\+ (?:{TERM}|P))*{SHARED}\\]", shared, text)
    return parts <= 40 and bool(re.fullmatch(f"{TERM}(?: \\+ (?:{TERM}|P))*", text))


def shared(found):
    return "N" if int(found[1]) < int(found[2]) else "?"


def some_sums():
    told = []
    for parts in list(range(1, 41)) + list(range(1, 12)) * 3:
        numbers = iter(numbers_in_turn(300, 0, 10 ** 9, 7 * parts + len(told)))
        told.append(made_up_sum(numbers, parts, ["a", "b", "abcdef", "z"]))
    return told


EACH = {
    "a": A,
    "abcdef": ("name", "abcdef"),
    "3 a": ("times", 3, A),
    "0 a": ("times", 0, A),
    "9 (8 a)": ("times", 9, ("times", 8, A)),
    "2 (3 (4 a))": ("times", 2, ("times", 3, ("times", 4, A))),
    "3 (a + b)": ("times", 3, ("plus", A, B)),
    "3 [a : 1 / 2]": ("times", 3, ("share", A, 1, 2)),
    "a + b": ("plus", A, B),
    "a + b + c": ("plus", ("plus", A, B), C),
    "a + (b + c)": ("plus", A, ("plus", B, C)),
    "a + b + (b + c)": ("plus", ("plus", A, B), ("plus", B, C)),
    "a + (b + (b + c))": ("plus", A, ("plus", B, ("plus", B, C))),
    "a + (a + b + c)": ("plus", A, ("plus", ("plus", A, B), C)),
    "a + 2 b": ("plus", A, ("times", 2, B)),
    "2 a + b": ("plus", ("times", 2, A), B),
    "2 a + 3 b + 4 c": ("plus", ("plus", ("times", 2, A), ("times", 3, B)), ("times", 4, C)),
    "2 (a + b) + c": ("plus", ("times", 2, ("plus", A, B)), C),
    "a + [b : 0 / 1]": ("plus", A, ("share", B, 0, 1)),
    "[a : 0 / 1] + b": ("plus", ("share", A, 0, 1), B),
    "[a : 11 / 12]": ("share", A, 11, 12),
    "[a : 9 / 10]": ("share", A, 9, 10),
    "[3 a : 1 / 4]": ("share", ("times", 3, A), 1, 4),
    "[a + b : 1 / 4]": ("share", ("plus", A, B), 1, 4),
    "[a + (b + c) : 1 / 4]": ("share", ("plus", A, ("plus", B, C)), 1, 4),
    "[[a : 1 / 3] : 0 / 4]": ("share", ("share", A, 1, 3), 0, 4),
    "2 (a + b) + [3 a : 1 / 4]": ("plus", ("times", 2, ("plus", A, B)), ("share", ("times", 3, A), 1, 4)),
    "plus + times": ("plus", ("name", "plus"), ("name", "times")),
}


class Shown(unittest.TestCase):
    def test_each_form_within_each(self):
        for text, one in EACH.items():
            self.assertEqual(shown(one), text)

    def test_read_again(self):
        for text, one in EACH.items():
            self.assertEqual(read_sum(text), one)

    def test_all_numbers(self):
        for k in range(10):
            self.assertEqual(shown(("times", k, A)), f"{k} a")
            self.assertEqual(read_sum(f"{k} a"), ("times", k, A))
        for d in range(1, 13):
            for c in range(d):
                self.assertEqual(shown(("share", A, c, d)), f"[a : {c} / {d}]")
                self.assertEqual(read_sum(f"[a : {c} / {d}]"), ("share", A, c, d))

    def test_made_up_ones(self):
        for one in some_sums():
            text = shown(one)
            self.assertTrue(writes_a_sum(text), text)
            self.assertEqual(read_sum(text), one)

    def test_40_parts(self):
        for outer, many in ((("share", 11, 12), 39), (("times", 9), 39), (("plus", ("name", "abcdef")), 19)):
            one = within(("name", "abcdef"), *[outer] * many)
            text = shown(one)
            self.assertLessEqual(len(text), 600)
            self.assertEqual(read_sum(text), one)
        self.assertEqual(shown(row_of(A, 20)), " + ".join("a" * 20))
        self.assertEqual(shown(row_of(A, 4, False)), "a + (a + (a + a))")
        for left in (True, False):
            self.assertEqual(read_sum(shown(row_of(A, 20, left))), row_of(A, 20, left))

    def test_what_is_read_is_a_sum_in_tuples(self):
        for text in EACH:
            self.assertIs(is_sum(read_sum(text)), True)


class Refused(unittest.TestCase):
    def check_all(self, wrong):
        for text in wrong:
            with self.subTest(text=text):
                self.assertIs(refused(self, "NoSum", read_sum, text).place, None)

    def test_brackets_that_are_not_due(self):
        self.check_all(["(a)", "((a))", "2 (a)", "a + (b)", "(a) + b", "[(a) : 0 / 1]", "(3 a)", "(a + b)", "((a + b))",
                        "([a : 0 / 1])", "2 ([a : 0 / 1])", "a + ([b : 0 / 1])", "([a : 0 / 1]) + b", "(a + b) + c",
                        "(a + b) + (b + c)", "a + (2 b)", "(2 a) + b", "2 ((a + b))", "a + ((b + c))", "2 (3 (a))",
                        "[(a + b) : 1 / 4]", "[(2 a) : 1 / 4]", "[[a : 0 / 1]]", "[a]", "(2) a", "[a : (0) / 1]",
                        "([a : 0 / 1] + b)", "2 (3 ((a + b)))", "{a}", "2 [a + b]"])

    def test_brackets_that_are_missing(self):
        self.check_all(["2 3 a", "2 3 (a + b)", "2 (3 4 a)", "2 (a + b", "2 a + b)", "(a + b", "a + b)", "a + (b + c",
                        "a + b + c)", "[a : 0 / 1", "a : 0 / 1", "a : 0 / 1]", "[a : 0 / 1)", "(a : 0 / 1]",
                        "2 (a + b]",
                        "2 [a + b)", ")a(", "]a[", "a) + (b", "2 (a) + (b)", "[a : 0 / 1] + b : 0 / 1]", "()", "[]",
                        "(", ")",
                        "2 ()", "a + ()", "[ : 0 / 1]", "2 (a + b))", "2 ((a + b)"])

    def test_blanks(self):
        for text in EACH:
            self.check_all([" " + text, text + " ", "\t" + text, text + "\n", text + "\u00a0"])
            for place, sign in enumerate(text):
                self.check_all([text[:place] + " " + text[place:]])
                if sign == " ":
                    self.check_all([text[:place] + other + text[place + 1:] for other in ("\t", "\n", "\u00a0", "_")])
                    cut = text[:place] + text[place + 1:]
                    if not writes_a_sum(cut):
                        self.check_all([cut])
        self.check_all(["a+b", "a +b", "a+ b", "a  + b", "a +  b", "2a", "2(a + b)", "2  a", "[a: 1 / 4]", "[a :1 / 4]",
                        "[a : 1/ 4]", "[a : 1 /4]", "[a : 1/4]", "[ a : 1 / 4]", "[a : 1 / 4 ]", "2 ( a + b)",
                        "2 (a + b )",
                        "a b", "2 [a : 1 / 4][b : 1 / 4]", "a [b : 1 / 4]", "(a + b) c"])

    def test_noughts_ahead_and_other_figures(self):
        self.check_all(["00 a", "02 a", "[a : 00 / 4]", "[a : 01 / 4]", "[a : 1 / 04]", "[a : 001 / 4]",
                        "[a : 01 / 12]",
                        "+2 a", "-2 a", "-0 a", "[a : -1 / 4]", "[a : +1 / 4]", "[a : 1 / +4]", "1.0 a", "1e0 a",
                        "1_0 a",
                        "0x2 a", "\u0662 a", "\u00b2 a", "[a : \u0661 / 4]", "[a : 1 / \uff14]", "[a : 1_1 / 12]"])

    def test_numbers_out_of_their_bounds(self):
        self.check_all([f"{k} a" for k in (10, 11, 12, 99, 100, 10 ** 30, 10 ** 500)])
        self.check_all([f"[a : 0 / {d}]" for d in (0, 13, 14, 99, 100, 112, 10 ** 30, 10 ** 500)])
        for d in range(1, 15):
            self.check_all([f"[a : {c} / {d}]" for c in (d, d + 1, 99, 100, 10 ** 30)])

    def test_no_numbers(self):
        self.check_all(["[a :  / 4]", "[a : 1 / ]", "[a : b / 4]", "[a : 1 / b]", "[a : 1]", "[a / 4]",
                        "[a : 1 / 4 / 4]",
                        "[a : 1 : 1 / 4]", "[a : 1 : 4]", "[a / 1 : 4]", "2", "2 ", "22", "2 3", "1 + a", "a + 1",
                        "a 2", "a * 2",
                        "2 + a", "[2 : 1 / 4]", "a - b", "a / 4"])

    def test_names(self):
        self.check_all(["abcdefg", "a + abcdefg", "2 abcdefg", "[abcdefg : 0 / 1]", "A", "aB", "2 A", "a + B",
                        "[A : 0 / 1]",
                        "a1", "a_b", "a-b", "\u00e4", "\u0430", "a.b", "2 \u00df", "a'", "\u1d43"])

    def test_cut_short_anywhere(self):
        for text in list(EACH) + [shown(one) for one in some_sums()]:
            for end in range(len(text)):
                if writes_a_sum(text[:end]):
                    self.assertEqual(shown(read_sum(text[:end])), text[:end])
                else:
                    self.check_all([text[:end]])

    def test_nothing_left_or_right_of_a_plus(self):
        self.check_all(["", " ", "+", " + ", " + a", "a + ", "a +", "+ a", "a + + b", "a +  + b", "a ++ b", "2 ( + a)",
                        "a + ( + b)",
                        "[ + a : 0 / 1]", "[a +  : 0 / 1]", "a + b + "])

    def test_more_than_40_parts(self):
        for outer in (("share", 0, 1), ("times", 2), ("plus", B)):
            for many in (40, 41, 45, 60):
                self.check_all([shown(within(A, *[outer] * many))])
        for left in (True, False):
            self.check_all([shown(row_of(A, names, left)) for names in (21, 22, 25)])
        self.check_all([shown(("times", 1, ("times", 1, row_of(A, 20))))])

    def test_far_too_long_and_too_deep(self):
        self.check_all([sign * many for sign in ("(", "[", ")", "]", "1 ", "1 (", "a + ", "a + (", "[[", "1", "a", " ",
                                                 " + ")
                        for many in (100, 600, 4000 // len(sign))])
        self.check_all(["(" * 1999 + "a" + ")" * 1999, "[" * 300 + "a" + " : 0 / 1]" * 300, "1 " * 1900 + "a",
                        "1 (" * 900 + "1 a" + ")" * 900, "a + (" * 600 + "a + a" + ")" * 600, "a + " * 900 + "a"])

    def test_what_is_no_text(self):
        self.check_all([0, 1, A, ("plus", A, B), ["a"], {"a": 1}, b"a + b", None, True, 1.5] + listed_things())
        for thing in odd_things():
            self.assertIs(refused(self, "NoSum", read_sum, thing).place, None)

    def test_each_text_but_for_one_sign(self):
        signs = "ab109()[]:/+ "
        good = bad = 0
        for text in list(EACH) + [shown(one) for one in some_sums() if len(shown(one)) < 50]:
            edits = {text[:at] + sign + text[at + cut:] for at in range(len(text) + 1) for sign in signs for cut in (0,
                                                                                                                     1)}
            edits |= {text[:at] + text[at + cut:] for at in range(len(text)) for cut in (1, 2, 3)}
            for edit in sorted(edits):
                if writes_a_sum(edit):
                    good += 1
                    self.assertEqual(shown(read_sum(edit)), edit)
                else:
                    bad += 1
                    self.assertIs(refused(self, "NoSum", read_sum, edit).place, None, edit)
        self.assertTrue(good > 500 and bad > 10000, (good, bad))


if __name__ == "__main__":
    unittest.main()

"""Texts of clerks, read and told again, to the sign (point 6)."""

import unittest

from dockethall.clerks import Bundle, Copy, Deal, Rows, read_clerk
from helper import HUGE, listed_things, odd_things, refused

GOOD = (
    ["deal " + str(many) for many in range(1, 7)]
    + ["bundle " + str(size) for size in range(1, 13)]
    + ["copy " + str(count) for count in range(10)]
    + ["copy -", "copy 1,0,2", "copy 0,0", "copy 9,9,9,9,9,9"]
    + ["rows -", "rows -/-", "rows " + "/".join(["-"] * 12), "rows 7", "rows 0/1", "rows 1,0/0,2"]
    + ["rows " + "/".join(["1,2,3,4,5,6"] * 12)]
)

BAD = [
    "", " ", "deal", "deal ", "bundle", "bundle ", "copy", "copy ", "rows", "rows ", "3", "-", "clerk -", "clerk 1",
    "deal 0", "deal 7", "deal 10", "deal 12", "bundle 0", "bundle 13", "bundle 99", "deal -1", "deal +1", "deal -",
    "deal 03", "deal 00", "bundle 01", "bundle 012", "bundle 12 ", "deal 3 ", " deal 3", "deal  3", "deal\t3",
    "deal\n3", "deal 3\n", "\ndeal 3", "deal 3\r", "deal3", "deal_3", "Deal 3", "DEAL 3", "deals 3", "dea 3",
    "deal 3 3", "deal 3,3", "deal 3.0", "deal 1_0", "bundle 1_0", "deal three", "deal 0x3", "deal 3;", "bundle -",
    "deal \u0663", "deal \uff13", "deal \u00b2", "bundle 1\u0662", "copy \u0661", "deal\u00a03", "deal 3\u00a0",
    "copy 10", "copy 01", "copy 1,02", "copy -1", "copy +1", "copy 1,", "copy ,1", "copy ,", "copy 1,,2", "copy 1, 2",
    "copy 1 ,2", "copy 1 2", "copy 1;2", "copy 1/2", "copy 1/", "copy /", "copy -,-", "copy --", "copy -,1", "copy 1,-",
    "copy - ", "copy -\n", "copy  -", "copy 1,1,1,1,1,1,1", "copy [1]", "copy 1\n", "copy 1,\n2", "copy \t1", "copy 1,12",
    "rows /", "rows 1/", "rows /1", "rows 1//2", "rows -/", "rows /-", "rows --", "rows -/1", "rows 1/-", "rows 1/1,2",
    "rows 1,2/1", "rows 1,2/1,", "rows 1 / 2", "rows 1/ 2", "rows 1 /2", "rows 10", "rows 1/10", "rows 01", "rows 1/-1",
    "rows " + "/".join(["1"] * 13), "rows " + "/".join(["-"] * 13), "rows 1,1,1,1,1,1,1", "rows 1/1\n", "rows 1\n/1",
    "rows 1/2 ", "rows  1/2", "row 1/2", "rows 1|2", "rows 1\\2", "rows \u0661/2", "deal " + "9" * 3900,
    "bundle " + "1" * 3900, "deal " + "0" * 3900 + "3", "copy " + "1," * 1900 + "1", "rows " + "1/" * 1900 + "1",
]


class Read(unittest.TestCase):
    def test_told_again_as_they_were_read(self):
        for text in GOOD:
            self.assertEqual(read_clerk(text).text(), text)

    def test_each_is_of_its_kind(self):
        kinds = {"deal": Deal, "bundle": Bundle, "copy": Copy, "rows": Rows}
        for text in GOOD:
            clerk = read_clerk(text)
            self.assertIs(type(clerk), kinds[text.split(" ")[0]])
            self.assertEqual(clerk.word(), text.split(" ")[0])

    def test_rows_as_written(self):
        self.assertEqual(read_clerk("deal 2").row(1), [0, 1])
        self.assertEqual(read_clerk("bundle 12").period(), 12)
        self.assertEqual(read_clerk("copy 1,0,2").row(0), [1, 0, 2])
        self.assertEqual(read_clerk("copy -").row(0), [])
        rows = read_clerk("rows 1,0/0,2/3,9")
        self.assertEqual([rows.row(state) for state in range(3)], [[1, 0], [0, 2], [3, 9]])
        empty = read_clerk("rows -/-")
        self.assertEqual((empty.period(), empty.outs()), (2, 0))

    def test_read_of_what_was_told(self):
        for clerk in (Deal(4), Bundle(11), Copy([]), Copy([3, 0]), Rows([[], [], []]), Rows([[9, 0], [0, 0]])):
            again = read_clerk(clerk.text())
            self.assertIs(type(again), type(clerk))
            self.assertEqual(again.text(), clerk.text())
            for state in range(clerk.period()):
                self.assertEqual(again.row(state), clerk.row(state))

    def test_texts_that_are_none(self):
        for text in BAD:
            with self.subTest(text=text[:40]):
                refused(self, "NoClerk", read_clerk, text)

    def test_every_sign_in_the_place_of_a_figure(self):
        for sign in map(chr, range(0x800)):
            if "1" <= sign <= "6":
                self.assertEqual(read_clerk("deal " + sign).period(), int(sign))
            else:
                refused(self, "NoClerk", read_clerk, "deal " + sign)
            if not "0" <= sign <= "2":
                refused(self, "NoClerk", read_clerk, "bundle 1" + sign)
            if not "0" <= sign <= "9":
                refused(self, "NoClerk", read_clerk, "rows 1,0/0," + sign)
                if sign != "-":
                    refused(self, "NoClerk", read_clerk, "copy " + sign)

    def test_good_texts_with_one_sign_more_or_less(self):
        for text in GOOD:
            for sign in " \n\t+-,/.\u0661":
                for place in range(len(text) + 1):
                    changed = text[:place] + sign + text[place:]
                    if changed not in GOOD:
                        self.agrees(changed)
            for place in range(len(text)):
                self.agrees(text[:place] + text[place + 1:])

    def agrees(self, text):
        """Whatever is read at all is told again to the sign."""
        try:
            clerk = read_clerk(text)
        except ValueError:
            refused(self, "NoClerk", read_clerk, text)
        else:
            self.assertEqual(clerk.text(), text)

    def test_things_that_are_no_text(self):
        for thing in [0, 3, HUGE, Deal(3), Copy([])] + odd_things() + listed_things():
            refused(self, "NoClerk", read_clerk, thing)


if __name__ == "__main__":
    unittest.main()

"""What the desk refuses, in which order, and that nothing is changed by it (points 2 and 28)."""

import unittest

from dockethall.desk import Desk
from dockethall.notes import read, written
from dockethall.offices import Office
from dockethall.papers import is_unrest
from helper import VALUES, at_desk, counter, listed_things, long_way, odd_things, refused, told_by

LATER = "door x; door y; clerk a rows 1,0/0,2 at 1 to x y; clerk b bundle 12 at 11 to a; entry in a; entry by b"
PLAIN = "door x; clerk a copy 1 at 0 to x; entry in a"
NEVER = "door x; clerk a copy 4 at 0 to b; clerk b bundle 4 at 3 to a; entry in a"
FAR = written(Office(long_way(1, 57, 7), [("in", "aa")], ["x"]))
# Of more rooms than are gone through, and of more clerks than may be once it is narrow.
WIDE = written(counter(0, 12, 12, 3))
BROAD = "door x; clerk a bundle 12 at 0 to b; clerk b bundle 12 at 0 to c; clerk c bundle 4 at 0 to x; entry in a"
KEPT = (f"office later {LATER}", f"office plain {PLAIN}", f"office never {NEVER}", f"office far {FAR}",
        f"office wide {WIDE}",
        f"office broad {BROAD}", "lay later in 5", "lay later by 3", "step later a", "lay never in 2", "step never a",
        "lay plain in 7")

NO_NAMES = ["", "A", "abcdefg", "a1", "1", "-", "\u00e4", "a,b", "a;", "aB", "Later", "later;", "\n", "later\n",
            "\tlater"]
ONE_NAME = ("drop", "run", "clear", "desks", "states", "out", "paper", "show")
ALL_WORDS = ONE_NAME + ("office", "sums", "narrow", "lay", "step", "alike", "names")


class Refusals(unittest.TestCase):
    def setUp(self):
        self.desk = at_desk(*KEPT)
        self.before = told_by(self.desk)

    def check(self, name, *rows, value=None):
        """Each row is refused so, and nothing is changed behind it."""
        for row in rows:
            with self.subTest(row=row if isinstance(row, str) else str(row)):
                error = refused(self, name, self.desk.say, row)
                if name in VALUES and name != "Endless":
                    told = getattr(error, VALUES[name])
                    self.assertEqual((told, type(told)), (value, type(value)))
                if name == "Endless":
                    self.assertTrue(is_unrest(read(NEVER), error.flow))
                self.assertEqual(told_by(self.desk), self.before)


class Rows(Refusals):
    def test_what_is_no_text(self):
        for row in listed_things() + [0, 1, ["names"], ("names",), b"names", [b"names"]]:
            self.check("NoRow", row)
        for row in odd_things():
            refused(self, "NoRow", self.desk.say, row)
        self.assertEqual(told_by(self.desk), self.before)

    def test_words_that_are_none(self):
        self.check("NoRow", "", " ", "  ", "\n", "-", "a", "ok", "Names", "NAMES", "name", "offices", "sum",
                   "tally plain", "plain", "later run",
                   "run\tplain", "names\n", "\nnames", "run\nplain", "help", "quit", "read x", "0",
                   "office\tb " + PLAIN, "Office b " + PLAIN)

    def test_too_few_words(self):
        self.check("NoRow", *[word for word in ALL_WORDS if word != "names"])
        self.check("NoRow", "narrow b", "step plain", "lay plain", "lay plain in", "alike plain", "sums b", "sums b in",
                   "office b")

    def test_too_many_words(self):
        self.check("NoRow", "names plain", "names names", *[f"{word} plain plain" for word in ONE_NAME])
        self.check("NoRow", "narrow b plain plain", "step plain a a", "lay plain in 1 1", "alike plain later plain")

    def test_blanks_ahead_and_behind_and_twice(self):
        self.check("NoRow", *[f" {word} plain" for word in ALL_WORDS], " names", "names ", "names  ",
                   " office b " + PLAIN)
        self.check("NoRow", *[f"{word}  plain" for word in ONE_NAME], *[f"{word} plain " for word in ONE_NAME])
        self.check("NoRow", "narrow b  plain", "narrow  b plain", "narrow b plain ", "step plain  a", "step plain a ",
                   "lay plain in 1 ",
                   "lay plain in  1", "lay plain  in 1", "lay  plain in 1", "alike plain  later", "alike plain later ")

    def test_office_and_sums_without_the_blank_ahead_of_their_text(self):
        self.check("NoRow", "office", "office ", "office b", "office later", "office B", "sums", "sums ", "sums b",
                   "sums b ", "sums  ", "sums b in",
                   "sums B IN", "sums later in,by")

    def test_ahead_of_all_other_things(self):
        self.check("NoRow", "drop none none", "run none ", "lay NONE none -1 0", "step none none none",
                   "alike none none none",
                   "narrow NEW none none", "office NEW", "sums NEW in,in", "lay none", "lay later none", "step none",
                   "alike none", "narrow none")


class Names(Refusals):
    def test_nothing_is_kept_by_it(self):
        for name in [name for name in NO_NAMES if " " not in name] + ["b", "none", "plai", "plains", "in", "x", "a"]:
            self.check("NoName", *[f"{word} {name}" for word in ONE_NAME])
            self.check("NoName", f"lay {name} in 1", f"step {name} a", f"alike {name} plain", f"alike plain {name}",
                       f"alike {name} {name}",
                       f"narrow b {name}", f"narrow plain {name}", f"narrow {name} {name}")

    def test_a_word_without_signs(self):
        self.check("NoName", *[f"{word} " for word in ONE_NAME])
        self.check("NoName", "narrow  plain", "narrow b ", "narrow  ", "lay  in 1", "lay plain  1", "step  a",
                   "step plain ", "alike  plain",
                   "alike plain ", "alike  ", "office  ", "office  " + PLAIN, "sums  in x = in", "sums   ", "sums  in ")

    def test_new_is_no_name(self):
        for name in NO_NAMES:
            self.check("NoName", f"office {name} {PLAIN}", f"sums {name} in x = in", f"narrow {name} plain",
                       f"narrow {name} broad")

    def test_new_ahead_of_the_text(self):
        self.check("NoName", "office B ", "office B nothing", "office B door x", "sums B in nothing", "sums B  ",
                   "sums B in,in x = y", "narrow B none",
                   "sums B in x = in; x = in")

    def test_a_desk_that_keeps_nothing(self):
        desk = Desk()
        for word in ONE_NAME:
            refused(self, "NoName", desk.say, f"{word} plain")
        for row in ("lay plain in 1", "step plain a", "alike plain plain", "narrow b plain"):
            refused(self, "NoName", desk.say, row)
        self.assertEqual(desk.say("names"), "-")

    def test_behind_drop(self):
        self.desk.say("drop plain")
        self.before = told_by(self.desk)
        self.check("NoName", *[f"{word} plain" for word in ONE_NAME], "alike plain later", "alike later plain",
                   "lay plain in 1")

    def test_an_entry_that_the_office_has_not(self):
        for entry in NO_NAMES + ["a", "b", "x", "y", "inn", "i", "IN", "in,by"]:
            self.check("NoName", f"lay later {entry} 1", f"lay later {entry} -1", f"lay later {entry} ",
                       f"lay later {entry} 1000000001")
        self.check("NoName", "lay plain by 1", "lay never by 1", "lay none by 1", "lay none by none")

    def test_a_clerk_that_the_office_has_not(self):
        for name in NO_NAMES + ["c", "x", "y", "in", "by", "aa", "0", "-1"]:
            self.check("NoName", f"step later {name}")
        self.check("NoName", "step plain b", "step none b", "step none a", "step plain in", "step plain x")


class Counts(Refusals):
    def test_what_is_no_count(self):
        self.check("NoCount", *[f"lay plain in {count}" for count in (
            "", "-", "-1", "-0", "+1", "+0", "00", "01", "007", "0000000001", "1.0", "1e3", "1_000", "1,000", "0x10",
                                                                      "a", "one", "in", "1a", "a1",
            "\u0661", "\u00b2", "\uff11", "1\n", "\t1", "10**9", "1/1", "None", "True")])

    def test_the_bound(self):
        self.check("NoCount", *[f"lay never in {count}" for count in (
            10 ** 9 + 1, 10 ** 9 + 2, 2 * 10 ** 9, 9999999999, 10 ** 10, 10 ** 20, "9" * 100, "1" + "0" * 3900,
                                                                      "9" * 3900)])
        for count in (10 ** 9, 10 ** 9 - 1, 0):
            self.assertEqual(at_desk(*KEPT[:1]).say(f"lay later by {count}"), "ok")

    def test_so_that_more_would_lie_on_that_desk(self):
        # Seven dockets lie there already, and four of five in the other office.
        self.check("NoCount", *[f"lay plain in {count}" for count in (10 ** 9, 10 ** 9 - 1, 10 ** 9 - 6)])
        self.check("NoCount", f"lay later in {10 ** 9 - 3}", f"lay later by {10 ** 9 - 2}", f"lay later by {10 ** 9}")
        self.assertEqual(self.desk.say(f"lay plain in {10 ** 9 - 7}"), "ok")
        self.assertEqual(self.desk.say(f"lay later in {10 ** 9 - 4}"), "ok")
        self.assertEqual(self.desk.say(f"lay later by {10 ** 9 - 3}"), "ok")
        self.before = told_by(self.desk)
        self.check("NoCount", "lay plain in 1", "lay later in 1", "lay later by 1", "lay plain in 1000000000")
        self.assertEqual(self.desk.say("lay plain in 0"), "ok")
        self.desk.say("step plain a")
        self.assertEqual(self.desk.say("lay plain in 1"), "ok")

    def test_by_two_entries_of_one_clerk(self):
        self.desk.say("office two door x; clerk a copy 1 at 0 to x; entry in a; entry by a")
        self.desk.say("lay two in 600000000")
        self.before = told_by(self.desk)
        self.check("NoCount", "lay two by 400000001", "lay two in 400000001")
        self.assertEqual(self.desk.say("lay two by 400000000"), "ok")

    def test_where_steps_brought_more(self):
        self.desk.say("office more door x; clerk a copy 9 at 0 to a; entry in a")
        self.desk.say("lay more in 1000000000")
        self.desk.say("step more a")
        self.assertEqual(self.desk.say("desks more"), str(10 ** 9 + 8))
        self.before = told_by(self.desk)
        self.check("NoCount", "lay more in 0", "lay more in 1")


class Offices(Refusals):
    def test_no_text(self):
        for new in ("b", "later"):
            for text, at in (("", 0), (" ", 0), ("x", 0), ("door", 0), (" " + PLAIN, 0), ("door x ", 0), ("door x;", 0),
                             ("door x; ", 1),
                             (PLAIN + " ", 2), (PLAIN + "; ", 3), (PLAIN + "; door y", 3), ("entry in a; " + PLAIN, 1),
                             ("door x; clerk a copy 1 at 0 to x y; clerk a", 2),
                             ("door x; clerk a deal 7 at 0 to x; entry in a", 1),
                             ("door x; clerk a copy 1 at 00 to x; entry in a", 1), (PLAIN.replace("; ", ";"), 0)):
                self.check("NoText", f"office {new} {text}", value=at)

    def test_no_office(self):
        for new in ("b", "later"):
            for text, part in (
                ("clerk a copy 1 at 0 to x; entry in a", "doors"),
                               ("door x; door x; clerk a copy 1 at 0 to x; entry in a", "doors"),
                ("door x", "clerks"), ("door x; entry in a", "clerks"),
                               ("door a; clerk a copy 1 at 0 to a; entry in a", "clerks"),
                ("door x; clerk a copy 1 at 1 to x; entry in a", "clerks"),
                               ("door x; clerk a copy 1 at 0 to; entry in a", "clerks"),
                ("door x; clerk a copy 1 at 0 to x", "entries"),
                               ("door x; clerk a copy 1 at 0 to x; entry in b", "entries"),
                ("door x; clerk a copy 1 at 0 to y; entry in a; entry in a", "entries"),
                               ("door x; clerk a copy 1 at 0 to y; entry in a", "leads"),
            ):
                self.check("NoOffice", f"office {new} {text}", value=part)


class Sums(Refusals):
    def check_both(self, place, *rows):
        for row in rows:
            self.check("NoSum", f"sums b {row}", f"sums later {row}", value=place)

    def test_entries(self):
        self.check_both(None, " x = in", ", x = in", "in, x = in", ",in x = in", "in,,by x = in", "in,in x = in",
                        "IN x = in", "abcdefg x = a",
                        "a,b,c,d,e,f,g x = a", "in;by x = in", "a1 x = a", "- x = a", "a,b,a x = a")

    def test_more_than_six_rows(self):
        rows = "; ".join(f"{door} = a" for door in "tuvwxyz")
        self.check_both(None, f"a {rows}", "a " + "; ".join([""] * 7), f"a {rows}; y", f"a nothing; {rows}")

    def test_entries_ahead_of_the_text(self):
        self.check_both(None, "in,in ", "in,in nothing", "A x = a", ",  ")

    def test_rows_that_are_none(self):
        for wrong in ("", " ", "x", "x =", "x = ", " = in", "= in", "x= in", "x =in", "x=in", "x  = in", "x =  in",
                      " x = in", "x = in ", "x = in;",
                      "x = (in)", "x = in+in", "x == in", "x = x = in", "X = in", "abcdefg = in", "x y = in", "x = IN",
                      "x = 10 in", "x, = in",
                      "x = [in : 2 / 2]", "x = out", "x = in + out", "x = 0 out",
                      "x = " + "1 (" * 40 + "1 in" + ")" * 40, "in", "x = 2",
                      "x = " + " + ".join(["in"] * 21), "x : in", "x = -"):
            self.check_both(0, f"in {wrong}")
            self.check_both(1, f"in y = in; {wrong}")
            self.check_both(2, f"in y = in; z = 2 in; {wrong}; w = in", f"in y = in; z = 2 in; {wrong}; {wrong}")
            self.check_both(5, f"in y = in; z = in; w = in; v = in; u = in; {wrong}")

    def test_a_door_that_came_ahead(self):
        self.check_both(1, "in x = in; x = in", "in x = in; x = 2 in; y",
                        "in x = " + " + ".join(["in"] * 7) + "; x = in")
        self.check_both(2, "in x = in; y = in; x = in", "in x = in; y = in; y = out")
        self.check_both(0, "in x = out; x = in")

    def test_behind_the_last_row(self):
        self.check_both(1, "in x = in; ", "in x = in; \n")
        self.check_both(2, "in x = in; y = in; ")
        self.check_both(0, "in x = in;y = in", "in x = in ; y = in", "in x = in\n")

    def test_too_many(self):
        seven = " + ".join(["in"] * 7)
        forty = "1 (" * 38 + "1 in" + ")" * 38
        self.check("TooMany", f"sums b in x = {seven}", f"sums later in x = {seven}", f"sums b in x = {forty}; y = in",
                   f"sums b in x = {forty}; y = {forty}", f"sums b in,by x = in; y = {seven}")
        self.assertEqual(self.desk.say(f"sums b in x = {forty}"), "ok")


class Deeds(Refusals):
    def test_no_docket(self):
        self.check("NoDocket", "step far aa", "step far ab", "step wide a", "step broad c")
        self.desk.say("clear later")
        self.before = told_by(self.desk)
        self.check("NoDocket", "step later a", "step later b")

    def test_run(self):
        self.check("Endless", "run never")
        self.desk.say("clear never")
        self.desk.say("lay far in 1")
        self.before = told_by(self.desk)
        self.check("Endless", "run never")
        self.check("TooLong", "run far")

    def test_run_of_just_400_lists(self):
        enough = written(Office(long_way(0, 57, 7), [("in", "aa")], ["x"]))
        self.assertEqual(at_desk(f"office a {enough}", "lay a in 1").say("run a"), "ran 400")

    def test_narrow(self):
        self.check("TooMany", "narrow b broad", "narrow broad broad", "narrow later broad")

    def test_alike(self):
        self.check("Unlike", "alike later plain", "alike plain later", "alike later never", "alike never later",
                   "alike far later")
        self.check("Endless", "alike never never", "alike never plain", "alike plain never", "alike far never",
                   "alike wide never")
        self.check("TooLong", "alike far far", "alike far plain", "alike plain far", "alike far wide")
        self.check("TooMany", "alike wide wide", "alike wide broad", "alike broad wide")

    def test_alike_by_just_400_pairs(self):
        desk = at_desk(f"office a {written(counter(0, 10, 10, 4))}", f"office b {written(counter(0, 4, 10, 10))}",
                       f"office c {written(counter(0, 10, 10, 5))}")
        self.assertEqual(desk.say("alike a b"), "alike")
        refused(self, "TooMany", desk.say, "alike c c")

    def test_flows_of_the_one_first(self):
        self.desk.say("office lone door x; clerk a copy 1 at 0 to a; entry in a")
        self.assertEqual(len(refused(self, "Endless", self.desk.say, "alike lone never").flow), 1)
        self.assertEqual(len(refused(self, "Endless", self.desk.say, "alike never lone").flow), 2)

    def test_work_goes_on_behind_refusals(self):
        self.check("NoCount", "lay plain in 01")
        self.check("NoName", "step plain b")
        self.check("NoRow", "run plain now")
        self.assertEqual([self.desk.say("run plain"), self.desk.say("out plain"), self.desk.say("desks plain")],
                         ["ran 7", "7", "0"])


class Order(Refusals):
    def test_from_the_left(self):
        for row, name in (
            ("lay none none none", "NoName"), ("lay plain none none", "NoName"), ("lay plain in none", "NoCount"),
                          ("lay none in none", "NoName"),
            ("step none none", "NoName"), ("step far none", "NoName"), ("step far aa", "NoDocket"),
            ("alike none never", "NoName"), ("alike never none", "NoName"), ("alike never later", "Unlike"),
                          ("alike never far", "Endless"),
            ("narrow B broad", "NoName"), ("narrow b none", "NoName"), ("narrow b broad", "TooMany"),
            ("office B nothing", "NoName"), ("sums B in,in nothing", "NoName"), ("run none", "NoName"),
                          ("run never", "Endless"),
        ):
            self.check(name, row)
        self.check("NoText", "office b door x; nothing; door x; door x", value=1)
        self.check("NoSum", "sums b in,in nothing", "sums b a,b,c,d,e,f,g x = h", value=None)
        self.check("NoSum", "sums b in x = in + in + in + in + in + in + in; y = by", value=1)


if __name__ == "__main__":
    unittest.main()

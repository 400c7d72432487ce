"""Offices written and read again, to the sign, and what is refused (points 2, 8 and 10)."""

import unittest

from dockethall.clerks import Bundle, Copy, Deal, Rows
from dockethall.notes import read, written
from dockethall.offices import Office
from helper import HUGE, all_told, changed, listed_things, made_up, odd_things, refused

ALL_KINDS = (
    "door out; door lost; clerk front deal 3 at 2 to back front out; clerk back rows 1,0/0,2 at 1 to lost sink; "
    "clerk sink copy - at 0 to; clerk pack bundle 12 at 11 to out; clerk none rows -/- at 1 to; "
    "clerk six copy 9,8,7,6,5,0 at 0 to six six out pack lost six; "
    "entry main pack; entry front front; entry out front"
)

# Texts that are written just as they stand.
GOOD = [
    "door d; clerk a copy - at 0 to; entry e a",
    "door b; clerk a copy 1 at 0 to b; entry a a",
    "door a; door b; door c; door d; door e; door f; clerk k deal 6 at 5 to f a k e b d; entry in k",
    "door d; clerk a deal 1 at 0 to a; entry a a; entry b a; entry c a; entry d a; entry e a; entry f a",
    "door d; clerk a bundle 12 at 10 to d; entry e a",
    "door zzzzzz; clerk abcdef rows 9,9,9,9,9,9/0,0,0,0,0,0 at 1 to abcdef zzzzzz abcdef zzzzzz abcdef abcdef; "
    "entry abcdef abcdef",
    ALL_KINDS,
    # Names that are words of such texts.
    "door door; clerk clerk copy 1 at 0 to door; entry entry clerk",
    "door at; door to; clerk copy copy 1,2 at 0 to to at; clerk deal deal 2 at 1 to copy to; entry at copy; entry to deal",
    "door clerk; door entry; clerk to rows 1/0 at 1 to to; clerk at bundle 3 at 2 to at; clerk door copy - at 0 to; "
    "entry clerk to; entry door at; entry entry door",
    "door copy; door rows; door bundle; clerk at copy 1,1,1 at 0 to at at copy; clerk to copy - at 0 to; entry copy at",
]

DOOR = "door d"
CLERK = "clerk a deal 2 at 1 to a d"
ENTRY = "entry e a"

# Rows that are none, whatever stands about them.
NO_ROWS = [
    "", " ", "  ", ";", "; ", "d", "a", "Door d", "doors d", "doo d", "DOOR d", "row d", "window d", "\ndoor d", "door d\n",
    "door", "door ", " door d", "door d ", "door  d", "door d d", "door d e", "door\td", "door\nd", "door D", "door 1",
    "door a1", "door abcdefg", "door d\n", "door d;", "door -", "door \u00e4", "door\u00a0d", "door d,e", "door d;e",
    "entry", "entry ", "entry e", "entry e ", "entry e a ", " entry e a", "entry  e a", "entry e  a", "entry e a a",
    "entry e a e", "entry E a", "entry e A", "entry e1 a", "entry e a1", "entry e 0", "entry abcdefg a",
    "entry e abcdefg", "entry e a\n", "entry e\n a", "entry\te a", "entry e,a", "Entry e a", "entries e a", "entr e a",
    "clerk", "clerk ", "clerk a", "clerk a deal", "clerk a deal 2", "clerk a deal 2 at", "clerk a deal 2 at 1",
    "clerk a deal 2 to a d", "clerk a deal 2 1 to a d", "clerk a deal 2 at 1 a d", "clerk a deal 2 at to a d",
    "clerk deal 2 at 1 to a d", "clerk a 2 at 1 to a d", "clerk a deal at 1 to a d", "a deal 2 at 1 to a d",
    "clerk a a deal 2 at 1 to a d", "clerk a deal 2 2 at 1 to a d", "clerk a deal 2 at 1 1 to a d",
    "clerk a deal 2 at at 1 to a d", "clerk a deal 2 at 1 to a d 2", "clerk a deal 2 at 1 to to a -",
    "clerk a deal 2 to 1 at a d", "clerk a deal 2 in 1 to a d", "clerk a deal 2 AT 1 to a d", "clerk a deal 2 At 1 to a d",
    "clerk a deal 2 at 1 too a d", "clerk a deal 2 at 1 TO a d", "clerk a deal 2 at 1 t a d", "clerk a deal 2 a 1 to a d",
    "clerk a deal 2 at 1 at a d", "clerk a deal 2 to 1 to a d",
    " clerk a deal 2 at 1 to a d", "clerk a deal 2 at 1 to a d ", "clerk  a deal 2 at 1 to a d",
    "clerk a  deal 2 at 1 to a d", "clerk a deal  2 at 1 to a d", "clerk a deal 2  at 1 to a d",
    "clerk a deal 2 at  1 to a d", "clerk a deal 2 at 1  to a d", "clerk a deal 2 at 1 to  a d",
    "clerk a deal 2 at 1 to a  d", "clerk a copy - at 0 to ", "clerk a copy -  at 0 to", "clerk a copy - at 0 to  ",
    "clerk a copy  at 0 to", "clerk a copy at 0 to", "clerk  copy - at 0 to",
    "clerk A deal 2 at 1 to a d", "clerk abcdefg deal 2 at 1 to a d", "clerk a1 deal 2 at 1 to a d",
    "clerk a\n deal 2 at 1 to a d", "clerk a deal 2 at 1 to A d", "clerk a deal 2 at 1 to a D",
    "clerk a deal 2 at 1 to a d\n", "clerk a deal 2 at 1 to a\n d", "clerk a deal 2 at 1 to a abcdefg",
    "clerk a deal 2 at 1 to a d1", "clerk a deal 2 at 1 to a,d", "clerk a deal 2 at 1 to a -1", "clerk a deal 2 at 1\nto a d",
    "clerk a copy - at 0 to\n", "clerk a copy - at 0\n to", "clerk a copy -\n at 0 to", "clerk a copy - at\n0 to",
    "Clerk a deal 2 at 1 to a d", "clerks a deal 2 at 1 to a d", "cler a deal 2 at 1 to a d",
    "clerk a deal 0 at 0 to", "clerk a deal 7 at 1 to a d", "clerk a deal 02 at 1 to a d", "clerk a deals 2 at 1 to a d",
    "clerk a Deal 2 at 1 to a d", "clerk a deal 2, at 1 to a d", "clerk a deal - at 1 to a d", "clerk a bundle 13 at 1 to a",
    "clerk a bundle 0 at 0 to a", "clerk a bundle - at 0 to a", "clerk a copy 1,,1 at 0 to a d", "clerk a copy 1, at 0 to a",
    "clerk a copy 10 at 0 to a", "clerk a copy 1,1,1,1,1,1,1 at 0 to a a a a a a a", "clerk a copy 1, 1 at 0 to a d",
    "clerk a copy 1/1 at 0 to a", "clerk a rows 1,0/1 at 0 to a d", "clerk a rows 1/ at 0 to a", "clerk a rows at 0 to a",
    "clerk a rows -/1 at 0 to a", "clerk a copy -1 at 0 to a", "clerk a deal 2\n at 1 to a d", "clerk a clerk 2 at 1 to a d",
    "clerk a rows " + "/".join(["1"] * 13) + " at 0 to a", "clerk a copy \u0661 at 0 to a",
]
NO_STATES = ["", "00", "01", "000", "001", "100", "123", "-1", "-", "+1", "1.", "1.0", "a", "at", "to", "1a", "0x", "1\n",
             "\n1", "\u0661", "\uff11", "\u00b2", "1_", "1,", "9" * 3000, "0" * 3000]
NO_ROWS += [f"clerk a deal 2 at {state} to a d" for state in NO_STATES]


def text_of(seats, entries, doors):
    """Written straight from what an office is made of."""
    rows = [f"door {door}" for door in doors]
    for name, clerk, leads, state in seats:
        rows.append(" ".join(["clerk", name, clerk.text(), "at", str(state), "to", *leads]))
    return "; ".join(rows + [f"entry {name} {target}" for name, target in entries])


class Written(unittest.TestCase):
    def test_to_the_sign(self):
        one = Office(
            [("front", Deal(3), ["back", "front", "out"], 2), ("back", Rows([[1, 0], [0, 2]]), ["lost", "sink"], 1),
             ("sink", Copy([]), [], 0), ("pack", Bundle(12), ["out"], 11), ("none", Rows([[], []]), [], 1),
             ("six", Copy([9, 8, 7, 6, 5, 0]), ["six", "six", "out", "pack", "lost", "six"], 0)],
            [("main", "pack"), ("front", "front"), ("out", "front")], ["out", "lost"])
        self.assertEqual(written(one), ALL_KINDS)

    def test_a_clerk_without_outs_ends_behind_to(self):
        one = Office([("a", Copy([]), [], 0)], [("e", "a")], ["d"])
        self.assertEqual(written(one), "door d; clerk a copy - at 0 to; entry e a")

    def test_many_offices(self):
        for many in (1, 2, 3, 7, 20, 60):
            for seed in range(20):
                made = made_up(seed, many, 10)
                self.assertEqual(written(Office(*made)), text_of(*made))


class Read(unittest.TestCase):
    def test_written_alike(self):
        for text in GOOD:
            self.assertEqual(written(read(text)), text)

    def test_told_alike(self):
        for many in (1, 2, 3, 7, 20, 60):
            for seed in range(20):
                one = Office(*made_up(100 + seed, many, 10))
                again = read(written(one))
                self.assertIs(type(again), Office)
                self.assertEqual(all_told(again), all_told(one))
                self.assertEqual([type(again.clerk(k)) for k in range(many)], [type(one.clerk(k)) for k in range(many)])
                self.assertEqual(written(again), written(one))

    def test_each_part_as_written(self):
        one = read(ALL_KINDS)
        self.assertEqual(one.names(), ["front", "back", "sink", "pack", "none", "six"])
        self.assertEqual(one.doors(), ["out", "lost"])
        self.assertEqual(one.entries(), [("main", 3), ("front", 0), ("out", 0)])
        self.assertEqual(one.begin(), [2, 1, 0, 11, 1, 0])
        self.assertEqual([one.leads(k) for k in range(6)], [[1, 0, -1], [-2, 2], [], [-1], [], [5, 5, -1, 3, -2, 5]])
        self.assertEqual([one.clerk(k).text() for k in range(6)],
                         ["deal 3", "rows 1,0/0,2", "copy -", "bundle 12", "rows -/-", "copy 9,8,7,6,5,0"])

    def test_words_as_names(self):
        one = read("door at; door to; clerk copy copy 1,2 at 0 to to at; clerk deal deal 2 at 1 to copy to; entry at deal")
        self.assertEqual((one.names(), one.doors(), one.entries()), (["copy", "deal"], ["at", "to"], [("at", 1)]))
        self.assertEqual([one.leads(0), one.leads(1)], [[-2, -1], [0, -2]])

    def test_every_state(self):
        for state in range(12):
            text = f"door d; clerk a bundle 12 at {state} to d; entry e a"
            self.assertEqual(read(text).begin(), [state])


class NoTexts(unittest.TestCase):
    def at(self, wanted, text):
        error = refused(self, "NoText", read, text)
        self.assertEqual((error.at, type(error.at)), (wanted, int), text)

    def test_things_that_are_no_text(self):
        for thing in [0, 1, HUGE, [DOOR, CLERK, ENTRY]] + odd_things() + listed_things():
            self.at(0, thing)

    def test_no_row_alone(self):
        for row in NO_ROWS:
            self.at(0, row)

    def test_no_row_at_each_place(self):
        good = [DOOR, "door f", CLERK, "clerk b copy - at 0 to", ENTRY, "entry f b"]
        read("; ".join(good))
        for row in NO_ROWS:
            for place in range(len(good) + 1):
                if row in ("; ", ";") and place > 0:
                    continue  # Its semicolon would part rows anew; these are looked at below.
                self.at(place, "; ".join(good[:place] + [row] + good[place:]))

    def test_no_row_in_a_good_ones_stead(self):
        for row in NO_ROWS:
            if row not in ("; ", ";"):
                self.at(0, "; ".join([row, CLERK, ENTRY]))
                self.at(1, "; ".join([DOOR, row, ENTRY]))
                self.at(2, "; ".join([DOOR, CLERK, row]))

    def test_signs_between_rows(self):
        self.at(0, f"{DOOR};{CLERK}; {ENTRY}")
        self.at(0, f"{DOOR};; {CLERK}; {ENTRY}")
        self.at(0, f"{DOOR} ; {CLERK}; {ENTRY}")
        self.at(0, f"{DOOR}\n; {CLERK}; {ENTRY}")
        self.at(0, f"{DOOR}, {CLERK}, {ENTRY}")
        self.at(0, f"{DOOR}\n{CLERK}\n{ENTRY}")
        self.at(0, f"; {DOOR}; {CLERK}; {ENTRY}")
        self.at(0, f" {DOOR}; {CLERK}; {ENTRY}")
        self.at(1, f"{DOOR};  {CLERK}; {ENTRY}")
        self.at(1, f"{DOOR}; ; {CLERK}; {ENTRY}")
        self.at(1, f"{DOOR}; \n{CLERK}; {ENTRY}")
        self.at(1, f"{DOOR}; {CLERK};{ENTRY}")
        self.at(2, f"{DOOR}; {CLERK}; {ENTRY};")
        self.at(2, f"{DOOR}; {CLERK}; {ENTRY}\n")
        self.at(2, f"{DOOR}; {CLERK}; {ENTRY} ")
        self.at(3, f"{DOOR}; {CLERK}; {ENTRY}; ")
        self.at(3, f"{DOOR}; {CLERK}; {ENTRY}; ; ")

    def test_rows_in_another_order(self):
        self.at(1, f"{CLERK}; {DOOR}; {ENTRY}")
        self.at(1, f"{ENTRY}; {CLERK}; {DOOR}")
        self.at(1, f"{ENTRY}; {DOOR}; {CLERK}")
        self.at(1, f"{ENTRY}; {DOOR}")
        self.at(2, f"{DOOR}; {ENTRY}; {CLERK}")
        self.at(2, f"{CLERK}; {ENTRY}; {DOOR}")
        self.at(2, f"{DOOR}; {CLERK}; door f; {ENTRY}")
        self.at(3, f"{DOOR}; {CLERK}; {ENTRY}; door f")
        self.at(3, f"{DOOR}; {CLERK}; {ENTRY}; clerk b copy - at 0 to")
        self.at(3, f"{DOOR}; {CLERK}; {ENTRY}; clerk b copy - at 0 to; {ENTRY}; {DOOR}")

    def test_the_first_of_two(self):
        self.at(1, f"{DOOR}; clerk a; entry e")
        self.at(1, f"{DOOR}; entry e; clerk a")
        self.at(2, f"{DOOR}; {CLERK}; door f; entry e")
        self.at(2, f"{DOOR}; {CLERK}; entry e; door f")
        self.at(2, f"{DOOR}; {CLERK}; entry e; ")
        self.at(0, f"door; {ENTRY}; {CLERK}")
        self.at(1, f"{ENTRY}; {CLERK}; door")
        self.at(3, f"{DOOR}; {CLERK}; {ENTRY}; door f; clerk")

    def test_no_row_goes_ahead_of_what_makes_no_office(self):
        self.at(3, f"{DOOR}; {DOOR}; {CLERK}; entry e")
        self.at(2, f"{DOOR}; clerk a deal 2 at 99 to q; entry")
        self.at(2, f"{CLERK}; {CLERK}; door")
        self.at(1, f"{CLERK}; {DOOR}")


class NoOffices(unittest.TestCase):
    def part(self, wanted, *rows):
        error = refused(self, "NoOffice", read, "; ".join(rows))
        self.assertEqual(error.part, wanted, rows)

    def test_doors(self):
        self.part("doors", DOOR, DOOR, CLERK, ENTRY)
        self.part("doors", DOOR, "door f", DOOR, CLERK, ENTRY)
        self.part("doors", CLERK, ENTRY)
        self.part("doors", ENTRY)
        self.part("doors", *["door " + name for name in "defghij"], CLERK, ENTRY)

    def test_clerks(self):
        self.part("clerks", DOOR, ENTRY)
        self.part("clerks", DOOR)
        self.part("clerks", DOOR, CLERK, CLERK, ENTRY)
        self.part("clerks", DOOR, CLERK, "clerk d copy - at 0 to", ENTRY)
        seats = [f"clerk {first}{second} copy - at 0 to" for first in "abcdefgh" for second in "abcdefgh"]
        self.part("clerks", DOOR, *seats[:61], "entry e aa")
        read("; ".join([DOOR, *seats[:60], "entry e aa"]))

    def test_a_state_beyond_the_clerks(self):
        for text, states in (("deal 2", (2, 3, 10, 99)), ("copy 1,1", (1, 9, 12, 99)), ("rows 1,1/0,0", (2, 12, 99))):
            for state in states:
                self.part("clerks", DOOR, f"clerk a {text} at {state} to a d", ENTRY)
        self.part("clerks", DOOR, "clerk a bundle 12 at 12 to d", ENTRY)

    def test_a_lead_more_or_less(self):
        for kind, outs in (("deal 2", 2), ("bundle 3", 1), ("copy -", 0), ("copy 1,2,3", 3), ("rows -/-", 0), ("rows 1/2", 1)):
            for leads in range(9):
                row = " ".join([f"clerk a {kind} at 0 to"] + ["d"] * leads)
                if leads == outs:
                    self.assertEqual(read("; ".join([DOOR, row, ENTRY])).leads(0), [-1] * outs)
                else:
                    self.part("clerks", DOOR, row, ENTRY)

    def test_entries(self):
        self.part("entries", DOOR, CLERK)
        self.part("entries", DOOR, CLERK, "entry e b")
        self.part("entries", DOOR, CLERK, "entry e d")
        self.part("entries", DOOR, CLERK, "entry e e")
        self.part("entries", DOOR, CLERK, ENTRY, ENTRY)
        self.part("entries", DOOR, CLERK, *[f"entry {name} a" for name in "abcdefg"])

    def test_leads(self):
        self.part("leads", DOOR, "clerk a deal 2 at 1 to a e", ENTRY)
        self.part("leads", DOOR, "clerk a deal 2 at 1 to b d", ENTRY)
        self.part("leads", DOOR, CLERK, "clerk b copy 0 at 0 to c", ENTRY)

    def test_the_first_of_two(self):
        bad_state = "clerk a deal 2 at 2 to a d"
        bad_leads = "clerk a deal 2 at 1 to a q"
        bad_entry = "entry e q"
        self.part("doors", DOOR, DOOR, bad_state, bad_entry)
        self.part("doors", bad_leads, bad_entry)
        self.part("doors", DOOR, DOOR)
        self.part("clerks", DOOR, bad_state, bad_entry)
        self.part("clerks", DOOR, bad_leads, bad_leads, bad_entry)
        self.part("clerks", DOOR, bad_leads, "clerk b copy - at 1 to")
        self.part("clerks", DOOR, bad_entry)
        self.part("entries", DOOR, bad_leads, bad_entry)
        self.part("entries", DOOR, bad_leads)


class Kept(unittest.TestCase):
    def test_writing_changes_nothing(self):
        one = read(ALL_KINDS)
        told = all_told(one)
        written(one)
        self.assertEqual(all_told(one), told)
        self.assertEqual(written(one), ALL_KINDS)

    def test_what_was_told_is_the_askers_own(self):
        one = read(ALL_KINDS)
        for told in (one.names(), one.doors(), one.entries(), one.begin(), one.leads(0), one.clerk(0).row(0)):
            changed(told)
        self.assertEqual(written(one), ALL_KINDS)

    def test_what_is_refused_changes_nothing_later(self):
        refused(self, "NoText", read, f"{DOOR}; {CLERK}; entry")
        refused(self, "NoOffice", read, f"{DOOR}; {CLERK}")
        for text in GOOD:
            self.assertEqual(written(read(text)), text)


if __name__ == "__main__":
    unittest.main()

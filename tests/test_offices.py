"""Names and offices (points 2, 8 and 9)."""

import unittest

from dockethall.clerks import Bundle, Clerk, Copy, Deal, Rows
from dockethall.offices import Office, is_name
from helper import HUGE, all_told, listed_things, odd_things, refused, texts

NO_NAMES = ["", "abcdefg", "a" * 4000, "A", "aB", "abcdeF", "a1", "1", "a b", " a", "a ", "a\n", "\na", "\n", "abcdef\n",
            "abcde\n", "a\t", "a-b", "a_b", "_", "a,", "\u00e4", "\u00df", "\uff41", "\u0430", "a\u0301", "\u00aa", "-"]


class Other(Clerk):
    """A clerk of no kind of the document's."""


def clerks():
    return [
        ("front", Deal(3), ["back", "front", "out"], 2),
        ("back", Rows([[1, 0], [0, 2]]), ["lost", "sink"], 1),
        ("sink", Copy([]), [], 0),
        ("pack", Bundle(12), ["out"], 11),
    ]


def entries():
    return [("main", "pack"), ("front", "front"), ("out", "front")]


def doors():
    return ["out", "lost"]


def office():
    return Office(clerks(), entries(), doors())


def plain(many):
    """So many clerks' tuples, each leading to the door."""
    names = [first + second for first in "abcdefgh" for second in "abcdefgh"]
    return [(name, Copy([1]), ["out"], 0) for name in names[:many]]


class Names(unittest.TestCase):
    def test_names(self):
        for name in ["a", "z", "m", "ab", "abcdef", "zzzzzz", "door", "to", "at"] + list("abcdefghijklmnopqrstuvwxyz"):
            self.assertIs(is_name(name), True)

    def test_texts_that_are_none(self):
        for text in NO_NAMES:
            self.assertIs(is_name(text), False, repr(text))

    def test_signs_beside_the_letters(self):
        for number in range(0x300):
            self.assertIs(is_name(chr(number)), "a" <= chr(number) <= "z", number)

    def test_things_that_are_no_text(self):
        for thing in [0, 1, HUGE, ["a"], ("a",), ["a", "b"]] + odd_things() + listed_things():
            self.assertIs(is_name(thing), False)


class Told(unittest.TestCase):
    def test_as_handed_in(self):
        one = office()
        self.assertEqual(one.names(), ["front", "back", "sink", "pack"])
        self.assertEqual(one.doors(), ["out", "lost"])
        self.assertEqual(one.entries(), [("main", 3), ("front", 0), ("out", 0)])
        self.assertEqual(one.many(), 4)
        self.assertEqual(one.begin(), [2, 1, 0, 11])
        self.assertEqual([one.leads(k) for k in range(4)], [[1, 0, -1], [-2, 2], [], [-1]])

    def test_clerks_are_those_handed_in(self):
        one = office()
        self.assertEqual([one.clerk(k).text() for k in range(4)], ["deal 3", "rows 1,0/0,2", "copy -", "bundle 12"])
        self.assertEqual([type(one.clerk(k)) for k in range(4)], [Deal, Rows, Copy, Bundle])

    def test_kinds_of_what_is_told(self):
        one = office()
        for told in (one.names(), one.doors(), one.entries(), one.begin(), one.leads(0)):
            self.assertIs(type(told), list)
        for entry in one.entries():
            self.assertIs(type(entry), tuple)

    def test_every_door_by_its_number(self):
        names = ["a", "b", "c", "d", "e", "f"]
        one = Office([("k", Deal(6), ["f", "a", "c", "e", "b", "d"], 0)], [("in", "k")], names)
        self.assertEqual(one.leads(0), [-6, -1, -3, -5, -2, -4])

    def test_least_and_most_of_all(self):
        one = Office([("a", Copy([]), [], 0)], [("a", "a")], ["b"])
        self.assertEqual(all_told(one), (["a"], ["b"], [("a", 0)], 1, [0], [("copy -", [])]))
        many = Office(plain(60), [(name, "ab") for name in "uvwxyz"], ["out", "p", "q", "r", "s", "t"])
        self.assertEqual((many.many(), len(many.entries()), len(many.doors())), (60, 6, 6))
        self.assertEqual(many.leads(59), [-1])

    def test_every_state_of_a_clerk(self):
        for clerk in (Deal(6), Bundle(12), Copy([1]), Rows([[1], [2], [3]])):
            for state in range(clerk.period()):
                one = Office([("a", clerk, ["a"] * clerk.outs(), state)], [("e", "a")], ["d"])
                self.assertEqual(one.begin(), [state])

    def test_an_entry_may_have_a_clerks_or_a_doors_name(self):
        one = Office([("a", Copy([1]), ["d"], 0), ("b", Copy([1]), ["a"], 0)], [("a", "b"), ("d", "a")], ["d"])
        self.assertEqual(one.entries(), [("a", 1), ("d", 0)])

    def test_one_clerk_may_sit_at_two_desks(self):
        deal = Deal(2)
        one = Office([("a", deal, ["b", "d"], 0), ("b", deal, ["d", "a"], 1)], [("e", "a"), ("f", "a")], ["d"])
        self.assertEqual(all_told(one), (
            ["a", "b"], ["d"], [("e", 0), ("f", 0)], 2, [0, 1], [("deal 2", [1, -1]), ("deal 2", [-1, 0])]))


class Kept(unittest.TestCase):
    def test_what_is_handed_in_stays_as_it_was(self):
        given = (clerks(), entries(), doors())
        one = Office(*given)
        all_told(one)
        self.assertEqual(given[1:], (entries(), doors()))
        for seat, wanted in zip(given[0], clerks()):
            self.assertEqual((seat[0], seat[1].text(), seat[2:]), (wanted[0], wanted[1].text(), wanted[2:]))
        self.assertEqual(len(given[0]), 4)

    def test_changing_it_afterwards_changes_nothing(self):
        given = (clerks(), entries(), doors())
        one = Office(*given)
        wanted = all_told(office())
        for seat in given[0]:
            seat[2].append("out")
            seat[2][0] = "lost"
        for part in given:
            part.reverse()
            part.append("x")
        self.assertEqual(all_told(one), wanted)

    def test_changing_what_was_told_changes_nothing(self):
        one = office()
        wanted = all_told(office())
        for told in [one.names(), one.doors(), one.entries(), one.begin()] + [one.leads(k) for k in range(4)]:
            told.append(99)
            told[0] = 98
        for told in (one.clerk(1).row(0), one.clerk(1).whole(), one.clerk(1).sent(0, 3)):
            told[0] = 98
        self.assertEqual(all_told(one), wanted)
        self.assertEqual(one.clerk(1).row(0), [1, 0])

    def test_what_was_told_stays(self):
        one = office()
        told = all_told(one)
        Office([("a", Copy([1]), ["b"], 0)], [("e", "a")], ["b"])
        all_told(one)
        self.assertEqual(told, all_told(office()))

    def test_what_is_refused_stays_as_it_was(self):
        given = (clerks(), entries(), ["out"])
        refused(self, "NoOffice", Office, *given)
        self.assertEqual(given[1:], (entries(), ["out"]))
        self.assertEqual([seat[2] for seat in given[0]], [seat[2] for seat in clerks()])


class Refusing(unittest.TestCase):
    def part(self, wanted, clerk_list, entry_list, door_list):
        error = refused(self, "NoOffice", Office, clerk_list, entry_list, door_list)
        self.assertEqual(error.part, wanted)

    def wrong_seat(self, *seat):
        """A clerk's tuple that is wrong by itself, alone and behind good ones."""
        self.part("clerks", [seat], [("e", "x")], ["out", "lost"])
        self.part("clerks", [seat], entries(), doors())
        self.part("clerks", clerks() + [seat], entries(), doors())
        self.part("clerks", [seat] + clerks(), entries(), doors())


class Doors(Refusing):
    def test_no_list_of_one_to_six(self):
        seven = ["out", "lost", "c", "d", "e", "f", "g"]
        for thing in [[], (), ("out", "lost"), "out", "", 0, 1, HUGE, seven, seven * 500, {"out": 1, "lost": 2}]:
            self.part("doors", clerks(), entries(), thing)
        for thing in odd_things():
            self.part("doors", clerks(), entries(), thing)

    def test_a_door_that_is_no_name(self):
        for thing in NO_NAMES + [0, 1, HUGE] + odd_things() + listed_things():
            self.part("doors", clerks(), entries(), ["out", "lost", thing])
            self.part("doors", clerks(), entries(), [thing, "out", "lost"])

    def test_two_doors_with_one_name(self):
        self.part("doors", clerks(), entries(), ["out", "lost", "out"])
        self.part("doors", clerks(), entries(), ["out", "out", "lost"])


class Clerks(Refusing):
    def test_no_list_of_one_to_sixty(self):
        for thing in [[], (), tuple(clerks()), "front", "", 0, 1, HUGE, {"front": 1}] + odd_things():
            self.part("clerks", thing, entries(), doors())
        self.part("clerks", plain(61), [("e", "aa")], ["out"])

    def test_what_is_no_tuple_of_four(self):
        good = ("x", Copy([1]), ["out"], 0)
        things = [list(good), good[:3], good + (0,), (), ("x",), "x", "abcd", "", 0, HUGE, Copy([1]), {"x": 1}, [], ["x"]]
        for thing in things + odd_things():
            self.part("clerks", [thing], [("e", "x")], doors())
            self.part("clerks", clerks() + [thing], entries(), doors())

    def test_a_name_that_is_none(self):
        for thing in NO_NAMES + [0, HUGE] + odd_things() + listed_things():
            self.wrong_seat(thing, Copy([1]), ["out"], 0)

    def test_two_clerks_with_one_name(self):
        self.part("clerks", clerks() + [("front", Copy([1]), ["out"], 0)], entries(), doors())
        self.part("clerks", clerks() + [("pack", Copy([1]), ["out"], 0)], entries(), doors())

    def test_a_clerk_with_a_doors_name(self):
        for door in doors():
            self.wrong_seat(door, Copy([1]), ["out"], 0)

    def test_what_is_no_clerk(self):
        for thing in [Clerk(), Other(), Deal, Copy, "copy 1", "deal 1", 0, 1, HUGE] + odd_things() + listed_things():
            self.wrong_seat("x", thing, ["out"], 0)
        self.wrong_seat("x", Clerk(), [], 0)
        self.wrong_seat("x", Other(), [], 0)

    def test_leads_that_are_no_list_of_as_many_texts(self):
        for thing in [[], ["out"], ["out"] * 3, ("out", "out"), "ab", "", 0, 2, HUGE, {"out": 1, "lost": 2}]:
            self.wrong_seat("x", Deal(2), thing, 0)
        for thing in odd_things() + listed_things() + texts():
            self.wrong_seat("x", Deal(2), thing, 0)
        self.wrong_seat("x", Copy([]), ["out"], 0)
        self.wrong_seat("x", Copy([]), (), 0)
        self.wrong_seat("x", Rows([[], []]), ["out"], 0)
        self.wrong_seat("x", Bundle(2), ["out", "out"], 0)

    def test_a_lead_that_is_no_text(self):
        for thing in [0, -1, HUGE] + odd_things() + listed_things():
            self.wrong_seat("x", Deal(2), ["out", thing], 0)
            self.wrong_seat("x", Deal(2), [thing, "out"], 0)

    def test_what_is_no_state(self):
        for thing in [-1, 3, 4, HUGE, -HUGE] + odd_things() + listed_things() + texts():
            self.wrong_seat("x", Deal(3), ["out", "out", "out"], thing)
        self.wrong_seat("x", Copy([1]), ["out"], 1)
        self.wrong_seat("x", Copy([1]), ["out"], -1)
        self.wrong_seat("x", Bundle(12), ["out"], 12)
        self.wrong_seat("x", Rows([[1], [1]]), ["out"], 2)


class Entries(Refusing):
    def test_no_list_of_one_to_six(self):
        seven = [(name, "front") for name in "abcdefg"]
        for thing in [[], (), tuple(entries()), "main", "", 0, 1, HUGE, seven, {"main": "pack"}] + odd_things():
            self.part("entries", clerks(), thing, doors())

    def test_what_is_no_tuple_of_two(self):
        things = [["x", "front"], ("x",), ("x", "front", "front"), (), "xy", "", 0, HUGE, {"x": "front"}, []]
        for thing in things + odd_things():
            self.part("entries", clerks(), [thing], doors())
            self.part("entries", clerks(), entries() + [thing], doors())

    def test_a_name_that_is_none(self):
        for thing in NO_NAMES + [0, HUGE] + odd_things() + listed_things():
            self.part("entries", clerks(), [(thing, "front")], doors())
            self.part("entries", clerks(), entries() + [(thing, "front")], doors())

    def test_what_names_no_clerk_of_the_office(self):
        for thing in ["x", "fron", "fronts", "out", "lost", "main", 0, 1, HUGE] + NO_NAMES + odd_things() + listed_things():
            self.part("entries", clerks(), [("x", thing)], doors())
            self.part("entries", clerks(), entries() + [("x", thing)], doors())

    def test_two_entries_with_one_name(self):
        self.part("entries", clerks(), [("x", "front"), ("x", "back")], doors())
        self.part("entries", clerks(), [("x", "front"), ("y", "back"), ("x", "front")], doors())


class Leads(Refusing):
    def test_texts_that_name_no_clerk_and_no_door(self):
        for text in NO_NAMES + ["x", "main", "fron", "fronts", "0", "-1"]:
            self.part("leads", clerks() + [("x" * 5, Copy([1]), [text], 0)], entries(), doors())
            self.part("leads", [("xxxxx", Deal(2), ["out", text], 0)] + clerks(), entries(), doors())

    def test_a_lead_by_which_nothing_ever_goes(self):
        self.part("leads", clerks() + [("x", Copy([0]), ["y"], 0)], entries(), doors())


class Several(Refusing):
    def test_the_first_is_told(self):
        bad_leads = clerks() + [("x", Copy([1]), ["nobody"], 0)]
        bad_clerks = clerks() + [("y", Copy([1]), ["nobody"], 1)]
        bad_entries = entries() + [("x", "nobody")]
        bad_doors = doors() + ["out"]
        self.part("doors", bad_clerks, bad_entries, bad_doors)
        self.part("doors", clerks(), bad_entries, bad_doors)
        self.part("doors", bad_clerks, entries(), bad_doors)
        self.part("doors", bad_leads, entries(), bad_doors)
        self.part("doors", None, None, None)
        self.part("clerks", bad_clerks, bad_entries, doors())
        self.part("clerks", bad_clerks, entries(), doors())
        self.part("clerks", bad_leads + bad_clerks, bad_entries, doors())
        self.part("clerks", None, None, doors())
        self.part("entries", bad_leads, bad_entries, doors())
        self.part("entries", bad_leads, None, doors())
        self.part("leads", bad_leads, entries(), doors())

    def test_a_door_too_few_shows_in_the_leads_alone(self):
        self.part("leads", clerks(), entries(), ["out"])

    def test_a_doors_name_among_the_clerks_goes_ahead_of_entries(self):
        self.part("clerks", clerks() + [("out", Copy([1]), ["out"], 0)], [], doors())


if __name__ == "__main__":
    unittest.main()

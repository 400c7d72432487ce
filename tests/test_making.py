"""Offices made of sums (points 2 and 25)."""

import unittest

from dockethall.handling import able, served
from dockethall.making import made
from dockethall.notes import read, written
from dockethall.offices import is_name
from dockethall.papers import is_rest, paper
from dockethall.sums import read_sum, value
from dockethall.tallies import tally
from helper import PICKS, Stubborn, all_told, made_up_sum, numbers_in_turn, odd_things, refused, row_of, texts, within

A, B, C = ("name", "a"), ("name", "b"), ("name", "c")


def pairs(text):
    """Rows DOOR = SUM as tuples."""
    return [(row.split(" = ")[0], read_sum(row.split(" = ")[1])) for row in text.split("; ")]


def by_entries(one, amounts):
    """Desks on which as many dockets lie as came by each entry."""
    desks = [0] * one.many()
    for name, k in one.entries():
        desks[k] += amounts[name]
    return desks


def made_up_sums(seed, entries, doors):
    """Sums that may be made, for these doors; of as many parts as let no name stand there more than six times."""
    numbers = iter(numbers_in_turn(3000, 0, 10 ** 9, seed))
    for most in range(40 // len(doors), 0, -1):
        told = [(door, made_up_sum(numbers, 1 + next(numbers) % most, entries)) for door in doors]
        if all(str(told).count(f"'name', '{entry}'") <= 6 for entry in entries):
            return told


def all_made_up():
    """Several entries and sums of each number of doors."""
    told = []
    for seed in range(48):
        entries = ["a", "b", "in", "abcdef", "x", "aa"][:1 + seed % 6]
        doors = ["x", "out", "aa", "ab", "ac", "zzzzzz"][:1 + seed // 6 % 6]
        told.append((entries, made_up_sums(seed, entries, doors)))
    return told


def biggest():
    """Sums of 40 parts of every form, with one to six entries."""
    names = "abcdef"
    told = []
    for outer in (("share", 0, 12), ("share", 11, 12), ("share", 6, 7), ("times", 9), ("times", 0), ("times", 1)):
        told.append((["a"], [("x", within(A, *[outer] * 39))]))
    told.append((["a"], [("x", within(A, *[("times", 9), ("share", 5, 11)] * 19))]))
    for left in (True, False):
        row = row_of(A, 6, left)
        told.append((["a"], [("x", within(row, *[("share", 3, 12)] * 29))]))
        told.append((["a"], [("x", within(row, *[("times", 9)] * 29))]))
    six = ("name", "f")
    for number in range(19):
        six = ("plus", six, ("name", names[number % 6]))
    told.append((list(names), [("x", ("times", 9, six))]))
    shares, times = [("share", 1, 12)] * 5, [("times", 9)] * 5
    told.append((list(names), [(door, within(("name", name), *shares)) for door, name in zip("uvwxyz", names)]))
    told.append((list(names), [(door, within(A, *times)) for door in "uvwxyz"]))
    return told


def amounts_for(entries):
    numbers = numbers_in_turn(3 * len(entries), 0, 10 ** 9, len(entries))
    told = [dict.fromkeys(entries, amount) for amount in (0, 1, 2, 11, 10 ** 9, 10 ** 9 - 1)]
    for place in range(3):
        told.append(dict(zip(entries, numbers[place::3])))
    for entry in entries:
        told.append({name: 10 ** 9 if name == entry else 0 for name in entries})
    return told


class Made(unittest.TestCase):
    def check(self, entries, sums, all_amounts=None):
        """Each door lets out its value, at once and with part of it laid there later."""
        one = made(entries, sums)
        self.assertEqual([name for name, k in one.entries()], entries)
        self.assertEqual(one.doors(), [door for door, each in sums])
        for amounts in all_amounts or amounts_for(entries):
            wanted = [value(each, amounts) for door, each in sums]
            told = tally(one, one.begin(), by_entries(one, amounts))
            self.assertEqual(told[2], wanted)
            half = {name: amount // 3 for name, amount in amounts.items()}
            rest = {name: amount - half[name] for name, amount in amounts.items()}
            first = tally(one, one.begin(), by_entries(one, half))
            self.assertEqual(first[2], [value(each, half) for door, each in sums])
            second = tally(one, first[1], by_entries(one, rest))
            self.assertEqual([early + late for early, late in zip(first[2], second[2])], wanted)
            self.assertEqual(second[1], told[1])
        return one

    def test_each_form(self):
        for text in ("a", "0 a", "1 a", "7 a", "a + a", "[a : 0 / 1]", "[a : 0 / 2]", "[a : 1 / 2]", "[a : 11 / 12]",
                     "2 (a + a)", "9 (8 (7 a))", "[[a : 1 / 3] : 2 / 5]", "[3 a : 1 / 4]", "3 [a : 1 / 4]",
                     "a + 2 a + [a : 0 / 3]"):
            self.check(["a"], [("x", read_sum(text))], [{"a": amount} for amount in list(range(30)) + [10 ** 9]])

    def test_all_shares(self):
        for d in range(1, 13):
            for c in range(d):
                self.check(["a"], [("x", ("share", A, c, d))],
                           [{"a": amount} for amount in (0, 1, d - c, d - c - 1, 29, 10 ** 9)])

    def test_several(self):
        self.check(["a", "b"], pairs("x = 2 (a + b) + [3 a : 1 / 4]"))
        self.check(["b", "a"], pairs("x = a + b; y = [a + b : 0 / 2]; z = 3 b"))
        self.check(["a", "b", "c"], pairs("y = a; x = b; a = c; c = a + b + c; b = [c : 1 / 12]; z = 0 a"))

    def test_several_by_hand(self):
        one = made(["in", "by"], pairs("x = 2 (in + by) + [3 in : 1 / 4]; y = [by : 0 / 3]"))
        told = tally(one, one.begin(), by_entries(one, {"in": 5, "by": 7}))
        self.assertEqual(told[2], [28, 2])

    def test_entries_that_stand_in_no_sum(self):
        self.check(["a", "b", "c"], pairs("x = b"))
        self.check(["b", "a"], pairs("x = [a : 1 / 3]; y = a"))
        for amount in (0, 1, 10 ** 9):
            one = made(["c", "a"], [("x", A)])
            self.assertEqual(tally(one, one.begin(), by_entries(one, {"c": amount, "a": 0}))[2], [0])

    def test_an_entry_may_have_a_doors_name(self):
        self.check(["x", "y"], pairs("y = x + 2 y; x = [y : 0 / 2]"))

    def test_sums_that_are_told_0(self):
        self.check(["a", "b"], pairs("x = 0 a; y = 0 (a + b); z = 5 (0 b); w = [0 a : 11 / 12]; v = 0 [a : 1 / 2]"))

    def test_one_name_six_times(self):
        self.check(["a"], [("x", row_of(A, 6))])
        self.check(["a"], [("x", row_of(A, 6, False))])
        self.check(["a", "b"], [(door, ("times", 2, A)) for door in "uvwxyz"])
        self.check(["a", "b"], pairs("x = a + b + a + b + a; y = b + [a + 2 a : 0 / 7] + 3 (b + a) + b; z = b"))
        self.check(["a"], pairs("x = 2 (a + a) + [a + a : 1 / 2] + a + a"))

    def test_made_up_ones(self):
        for entries, sums in all_made_up():
            self.check(entries, sums)

    def test_40_parts_of_every_form(self):
        for entries, sums in biggest():
            self.check(entries, sums)

    def test_in_any_order_of_handlings(self):
        compared = 0
        for entries, sums in all_made_up()[:24]:
            one = made(entries, sums)
            for amounts in ({name: 1 + place for place, name in enumerate(entries)}, dict.fromkeys(entries, 3)):
                wanted = [value(each, amounts) for door, each in sums]
                for picks in PICKS:
                    told = served(one, one.begin(), by_entries(one, amounts), picks, 3000)
                    if len(told[3]) == 3000:
                        break
                    self.assertEqual((told[2], able(told[1])), (wanted, []))
                    compared += 1
        self.assertGreater(compared, 300)

    def test_dockets_that_come_while_others_lie_there(self):
        sums = pairs("x = 2 (a + b) + [3 a : 1 / 4]; y = [a + [b : 0 / 3] : 1 / 2]")
        one = made(["a", "b"], sums)
        for seed in range(10):
            numbers = numbers_in_turn(40, 0, 10 ** 18, seed)
            amounts = {"a": 0, "b": 0}
            states, desks, out = one.begin(), [0] * one.many(), [0, 0]
            for number in numbers:
                name = "ab"[number // 7 % 2]
                amounts[name] += number % 3
                desks[dict(one.entries())[name]] += number % 3
                states, desks, more, log = served(one, states, desks, numbers, number // 1000 % 9)
                out = [early + late for early, late in zip(out, more)]
            states, desks, more, log = served(one, states, desks, numbers, 5000)
            out = [early + late for early, late in zip(out, more)]
            self.assertEqual((out, able(desks)), ([value(each, amounts) for door, each in sums], []))

    def test_a_paper_of_rest(self):
        for entries, sums in all_made_up() + biggest():
            one = made(entries, sums)
            told = paper(one)
            self.assertEqual(told[0], "rest")
            self.assertTrue(is_rest(one, told[1]))

    def test_written_and_read(self):
        for entries, sums in all_made_up() + biggest():
            one = made(entries, sums)
            self.assertEqual(all_told(read(written(one))), all_told(one))


class Names(unittest.TestCase):
    def check(self, one):
        names = one.names()
        self.assertTrue(all(is_name(name) for name in names))
        self.assertEqual(len(set(names + one.doors())), len(names) + len(one.doors()))

    def test_of_made_up_ones(self):
        for entries, sums in all_made_up() + biggest():
            self.check(made(entries, sums))

    def test_doors_with_the_clerks_own_names(self):
        entries, sum_of_all = ["a", "b"], read_sum("2 a + [b : 1 / 3] + 3 (4 b)")
        doors = ["x"]
        for turn in range(40):
            one = made(entries, [(door, sum_of_all if door == doors[0] else A) for door in doors])
            self.check(one)
            told = tally(one, one.begin(), by_entries(one, {"a": 5, "b": 7}))[2]
            self.assertEqual(told, [10 + 2 + 84] + [5] * (len(doors) - 1))
            # The next time the doors are called as clerks were.
            doors = [one.names()[(turn + step) % one.many()] for step in range(min(1 + turn, 4))]


class Refused(unittest.TestCase):
    def check(self, place, entries, sums):
        told = refused(self, "NoSum", made, entries, sums).place
        self.assertEqual((told, type(told)), (place, type(place)))

    def test_entries(self):
        good = [("x", A)]
        wrong = [[], ["a", "a"], ["a", "b", "a"], ["a", "b", "c", "d", "e", "f", "g"], ["a", ""], ["a", "A"],
                 ["abcdefg"], ["a b"],
                 ["a", 1], ["a", None], ["a", ["b"]], ["a", ("b",)], ["a", True], [Stubborn()], ["a", {}], ("a",),
                 ("a", "b"), "a", {"a": 1}, None, 1, True, "", {"a"}]
        for entries in wrong + odd_things():
            self.check(None, entries, good)

    def test_no_list_of_one_to_six(self):
        seven = [(door, A) for door in "tuvwxyz"]
        wrong = [[], (), (("x", A),), {"x": A}, ("x", A), seven, seven * 2, [None] * 7, 0, 1]
        for sums in odd_things() + texts() + wrong:
            self.check(None, ["a"], sums)
        self.assertEqual(made(["a"], seven[:6]).doors(), list("tuvwxy"))

    def test_entries_ahead_of_sums(self):
        for sums in ([None], [("x", B)], [], None, [("x", row_of(A, 7))]):
            self.check(None, [], sums)

    def test_a_list_too_long_ahead_of_its_tuples(self):
        self.check(None, ["a"], [None] + [(door, A) for door in "uvwxyz"])

    def wrong_ones(self):
        pairs_of_others = [["x", A], ("x",), ("x", A, A), ("x", A, None), (), (A, "x"), [], [A]]
        no_sums = ["a", None, "a + b", ["name", "a"], ("name", "A"), ("times", 10, A), ("share", A, 2, 2),
                   row_of(A, 21), within(A, *[("times", 1)] * 40), Stubborn()]
        no_entries = [B, ("plus", A, B), ("times", 0, B), ("share", ("times", 3, B), 0, 2)]
        no_doors = ["", "X", "abcdefg", "x y", None, 1, True, ["x"], ("x",), Stubborn()]
        told = odd_things() + texts() + [0, 1] + pairs_of_others
        return told + [("x", one) for one in no_sums + no_entries] + [(door, A) for door in no_doors]

    def test_the_number_of_the_first_tuple_that_is_not_as_told(self):
        others = [("u", A), ("v", ("times", 2, A)), ("w", A), ("y", A), ("z", A)]
        for wrong in self.wrong_ones():
            for place in (0, 1, 3, 5):
                self.check(place, ["a"], others[:place] + [wrong] + others[place:])
            self.check(0, ["a"], [wrong])
            self.check(2, ["a"], others[:2] + [wrong, wrong, None])

    def test_a_door_that_came_ahead(self):
        for doors, place in (("xx", 1), ("xyx", 2), ("xyy", 2), ("xyzxyz", 3), ("xyzwvx", 5), ("xxx", 1)):
            self.check(place, ["a"], [(door, A) for door in doors])
        self.check(1, ["a"], [("x", A), ("y", B), ("x", A)])
        self.check(1, ["a"], [("x", A), ("x", A), ("y", B)])
        # A door of a tuple that is none has not come ahead, for that tuple is told.
        self.check(0, ["a"], [("x", B), ("x", A)])

    def test_a_name_that_is_no_entry(self):
        for text, place in (("x = a; y = b; z = c", 2), ("x = d; y = a", 0), ("x = 2 (a + [b + c : 0 / 3])", 0),
                            ("x = a; y = a + x", 1)):
            self.check(place, ["a", "b"], pairs(text))

    def test_ahead_of_too_many(self):
        self.check(1, ["a"], [("x", row_of(A, 7)), ("x", A)])
        self.check(1, ["a"], [("x", row_of(A, 7)), ("y", B)])
        self.check(1, ["a"], [("x", row_of(A, 20)), ("y", row_of(A, 21))])


class TooMany(unittest.TestCase):
    def test_40_parts_together_and_41(self):
        times, shares = [("times", 1)] * 50, [("share", 0, 2)] * 50
        for split in ([20, 20], [1, 39], [39, 1], [10, 10, 10, 10], [6, 7, 7, 7, 7, 6], [13, 13, 14]):
            for outers in (times, shares):
                sums = [(door, within(A, *outers[:parts - 1])) for door, parts in zip("uvwxyz", split)]
                self.assertEqual(len(made(["a"], sums).doors()), len(split))
                for place in range(len(split)):
                    more = list(sums)
                    more[place] = (more[place][0], ("times", 1, more[place][1]))
                    if split[place] < 40:
                        refused(self, "TooMany", made, ["a"], more)
        refused(self, "TooMany", made, ["a"], [(door, within(A, *times[:39])) for door in "uvwxyz"])

    def test_40_parts_of_plus_and_two_more(self):
        row = ("name", "f")
        for number in range(19):
            row = ("plus", row, ("name", "abcd"[number % 4]))
        for sums in ([("x", row)], [("x", ("times", 1, row))]):
            self.assertEqual(made(list("abcdef"), sums).doors(), ["x"])
        refused(self, "TooMany", made, list("abcdef"), [("x", row), ("y", ("times", 1, ("name", "e")))])
        self.assertEqual(made(list("abcdef"), [("x", row), ("y", ("name", "e"))]).doors(), ["x", "y"])

    def test_a_name_six_times_and_seven(self):
        for left in (True, False):
            self.assertEqual(made(["a"], [("x", row_of(A, 6, left))]).doors(), ["x"])
            refused(self, "TooMany", made, ["a"], [("x", row_of(A, 7, left))])
            refused(self, "TooMany", made, ["b", "a"], [("x", B), ("y", row_of(A, 7, left))])
        for split in ((6, 1), (1, 6), (3, 4), (2, 2, 3), (1, 1, 1, 1, 1, 2), (7,)):
            sums = [(door, row_of(A, times)) for door, times in zip("uvwxyz", split)]
            refused(self, "TooMany", made, ["a", "b"], sums)
            fewer = [(door, row_of(B if times > 1 else A, times)) for door, times in zip("uvwxyz", split)]
            if sum(times for times in split if times > 1) < 7:
                self.assertEqual(len(made(["a", "b"], fewer).doors()), len(split))
        both = ("plus", row_of(A, 6), row_of(B, 6))
        self.assertEqual(made(["a", "b"], [("x", both)]).doors(), ["x"])
        refused(self, "TooMany", made, ["a", "b"], [("x", both), ("y", B)])
        refused(self, "TooMany", made, ["a", "b"], [("y", A), ("x", both)])


class Kept(unittest.TestCase):
    def test_what_is_handed_in_is_not_changed_or_kept(self):
        entries, sums = ["a", "b"], pairs("x = 2 a + [b : 1 / 3]; y = a")
        one = made(entries, sums)
        before = all_told(one)
        self.assertEqual((entries, sums), (["a", "b"], pairs("x = 2 a + [b : 1 / 3]; y = a")))
        entries.append("c")
        entries[0] = "z"
        sums[0] = None
        sums.append(None)
        self.assertEqual(all_told(one), before)
        self.assertEqual(all_told(made(["a", "b"], pairs("x = 2 a + [b : 1 / 3]; y = a"))), before)

    def test_what_is_refused_changes_nothing(self):
        entries, sums = ["a"], [("x", A), ("y", B)]
        refused(self, "NoSum", made, entries, sums)
        self.assertEqual((entries, sums), (["a"], [("x", A), ("y", B)]))
        sums = [("x", row_of(A, 7))]
        refused(self, "TooMany", made, entries, sums)
        self.assertEqual((entries, sums), (["a"], [("x", row_of(A, 7))]))


if __name__ == "__main__":
    unittest.main()

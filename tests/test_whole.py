"""The promise over the whole program: sums told to a desk, run in any order, also in narrow offices (point 4)."""

import unittest

from dockethall.books import book, bound, shares_at
from dockethall.handling import able, served
from dockethall.holding import parting
from dockethall.notes import read
from dockethall.papers import paper
from dockethall.sums import read_sum, shown, value
from helper import PICKS, at_desk, made_up_sum, numbers_in_turn

WRITTEN = (
    ("in,by", "x = 2 (in + by) + [3 in : 1 / 4]; y = [by : 0 / 3]"),
    ("a", "x = a"),
    ("a", "x = 0 a; y = [a : 11 / 12]"),
    ("a,b,c", "x = [a + b : 1 / 2] + [b + c : 0 / 5]; y = a + b + c; z = 3 [c : 2 / 3]"),
    ("a,b", "u = a; v = b; w = a + b; x = 9 a; y = [a : 3 / 4]; z = [b : 0 / 1]"),
    ("x,y", "y = [[x : 1 / 2] : 1 / 3]; x = 2 (3 (y + x))"),
    ("aa,ab,b,c,d,e", "aa = aa + ab + b + c + d + e; ab = [aa + (b + c) : 5 / 8]"),
    ("a,b", "x = a + a + a + [a + 2 a : 4 / 7] + a"),
)


def made_up_rows():
    """Rows of sums whose offices have narrow ones."""
    told = []
    for seed in range(60):
        names = ["a", "b", "in"][:1 + seed % 3]
        numbers = iter(numbers_in_turn(200, 0, 10 ** 9, seed))
        sums = [made_up_sum(numbers, 1 + next(numbers) % 6, names) for door in "xyz"[:1 + seed // 3 % 3]]
        text = "; ".join(f"{door} = {shown(one)}" for door, one in zip("xyz", sums))
        if max(str(sums).count(f"'{name}'") for name in names) <= 6 and small(text):
            told.append((",".join(names), text))
    return told


def small(text):
    """Whether the trees in the stead of the shares leave an office of at most 60 clerks, however the rest is made."""
    bottoms = [int(part.split("]")[0]) for part in text.split(" / ")[1:]]
    return sum(bottom + 15 if bottom > 8 else bottom + 7 for bottom in bottoms) <= 40


def by_amounts(text, amounts):
    return [value(read_sum(row.split(" = ")[1]), amounts) for row in text.split("; ")]


class Whole(unittest.TestCase):
    def desk(self, entries, text):
        return at_desk(f"sums wide {entries} {text}", "narrow thin wide")

    def test_both_let_out_the_values_and_answer_alike(self):
        for entries, text in WRITTEN + tuple(made_up_rows()):
            desk = self.desk(entries, text)
            names = entries.split(",")
            for amounts in ([3, 1, 4, 1, 5, 9], [0] * 6, [1] * 6, [1000, 0, 7, 999, 1, 12]):
                came = dict(zip(names, amounts))
                wanted = " ".join(str(number) for number in by_amounts(text, came))
                for office in ("wide", "thin"):
                    desk.say(f"clear {office}")
                    for name, amount in came.items():
                        desk.say(f"lay {office} {name} {amount}")
                    desk.say(f"run {office}")
                    self.assertEqual(desk.say(f"out {office}"), wanted)
            self.assertEqual((desk.say("paper wide").split(" ")[0], desk.say("paper thin").split(" ")[0]),
                             ("rest", "rest"))

    def test_alike(self):
        held = 0
        for entries, text in WRITTEN + tuple(made_up_rows()):
            desk = self.desk(entries, text)
            rooms = 1
            for part in text.split(" / ")[1:]:
                rooms *= int(part.split("]")[0])
            if rooms <= 400:
                self.assertEqual((desk.say("alike wide thin"), desk.say("alike thin wide")), ("alike", "alike"))
                held += 1
        self.assertGreater(held, 30)

    def test_step_by_step_in_any_order(self):
        for entries, text in WRITTEN[:5]:
            names = entries.split(",")
            for office in ("wide", "thin"):
                for seed in range(4):
                    desk = self.desk(entries, text)
                    rows = desk.say(f"show {office}").split("; ")
                    clerks = [row.split(" ")[1] for row in rows if row.startswith("clerk ")]
                    came = dict.fromkeys(names, 0)
                    for number in numbers_in_turn(60, 0, 10 ** 9, seed):
                        if number % 4 == 0:
                            name = names[number // 4 % len(names)]
                            came[name] += number % 5
                            desk.say(f"lay {office} {name} {number % 5}")
                        ready = [clerk for clerk, lies in zip(clerks,
                                                              desk.say(f"desks {office}").split(" ")) if lies != "0"]
                        if ready:
                            desk.say(f"step {office} {ready[number % len(ready)]}")
                        if number % 17 == 0:
                            desk.say(f"run {office}")
                    desk.say(f"run {office}")
                    self.assertEqual(desk.say(f"out {office}"),
                                     " ".join(str(number) for number in by_amounts(text, came)))

    def test_all_orders_do_as_many_handlings_as_the_book_tells(self):
        for entries, text in WRITTEN:
            desk = self.desk(entries, text)
            for office in ("wide", "thin"):
                one = read(desk.say(f"show {office}"))
                desks = [0] * one.many()
                for place, (name, k) in enumerate(one.entries()):
                    desk.say(f"lay {office} {name} {place + 2}")
                    desks[k] += place + 2
                ran = desk.say(f"run {office}")
                out = [int(word) for word in desk.say(f"out {office}").split(" ")]
                prices, nothing = paper(one)[1], [(0, 1)] * len(out)
                for picks in PICKS:
                    states, left, went, log = served(one, one.begin(), desks, picks, 5000)
                    self.assertEqual((ran, out, able(left)), (f"ran {len(log)}", went, []))
                    early = book(one, prices, nothing, one.begin(), desks, out)
                    late = book(one, prices, nothing, states, left, out)
                    self.assertEqual(early[0] * late[1] - late[0] * early[1], len(log) * early[1] * late[1])
                    self.assertLessEqual(len(log), bound(one, one.begin(), desks))

    def test_the_books_of_the_doors_balance(self):
        for entries, text in WRITTEN:
            one = read(self.desk(entries, text).say("show thin"))
            many = len(one.doors())
            desks = [0] * one.many()
            for place, (name, k) in enumerate(one.entries()):
                desks[k] += place + 2
            for door in range(many):
                worths = shares_at(one, door)
                doors = [(1 if each == door else 0, 1) for each in range(many)]
                wanted = book(one, worths, doors, one.begin(), desks, [0] * many)
                for most in (0, 1, 5, 50, 5000):
                    states, left, out, log = served(one, one.begin(), desks, PICKS[-1], most)
                    self.assertEqual(book(one, worths, doors, states, left, out), wanted)

    def test_another_sum_is_parted(self):
        desk = at_desk("sums a in,by x = [in + by : 1 / 3]", "sums b in,by x = [in : 1 / 3] + [by : 0 / 3]",
                       "narrow c a", "narrow d b")
        for one, other in ("ab", "ad", "cb", "cd"):
            told = desk.say(f"alike {one} {other}")
            self.assertEqual(told, "parted in by")
            self.assertEqual(parting(read(desk.say(f"show {one}")), read(desk.say(f"show {other}"))),
                             told.split(" ")[1:])


if __name__ == "__main__":
    unittest.main()

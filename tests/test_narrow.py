"""Offices made narrow (points 2 and 26)."""

import unittest
from itertools import product

from dockethall.clerks import Bundle, Copy, Deal, Rows
from dockethall.handling import able, served
from dockethall.holding import parting
from dockethall.making import made
from dockethall.narrow import narrowed
from dockethall.notes import lead_names, read, written
from dockethall.offices import Office
from dockethall.papers import is_rest, is_unrest, paper
from dockethall.sums import value
from dockethall.tallies import tally
from helper import (PICKS, all_told, changed, counter, made_up_sum, numbers_in_turn, office_of, refused, resting,
                    row_of, unresting,
                    within)

A = ("name", "a")


def dealers_for(period):
    """2 ** k - 1, k being the least whole number with 2 ** k at least the period."""
    k = 0
    while 2 ** k < period:
        k += 1
    return 2 ** k - 1


def size_of(one):
    periods = [one.clerk(k).period() for k in range(one.many())]
    return sum(period + dealers_for(period) for period in periods)


def rows_of(period, outs):
    """A clerk of rows that are all unlike, the first ones sending nothing by the first out."""
    return Rows([[t * (out + 1) // 3 % 10 for out in range(outs)] for t in range(period)])


def each_clerk():
    """Each kind, each period from 1 to 12, with and without outs."""
    told = [Deal(many) for many in range(1, 7)] + [Bundle(size) for size in range(1, 13)]
    told += [Copy([]), Copy([0]), Copy([1]), Copy([9, 0, 2]), Copy([1, 2, 3, 4, 5, 6])]
    for period in range(1, 13):
        told += [Rows([[]] * period), rows_of(period, 1), rows_of(period, 3)]
    return told


def alone(clerk, state):
    """An office of one clerk, whose outs lead to doors and to a second clerk that sends on to the doors."""
    leads = ["x", "y", "more", "x", "y", "more"][:clerk.outs()]
    seats = [("only", clerk, leads, state), ("more", Copy([1, 2]), ["y", "x"], 0)]
    return Office(seats, [("in", "only")], ["x", "y"])


def answers(one, row, most=5000):
    """What goes out behind each docket of a row of entries' numbers, by single handlings; None where it is too long."""
    states, told = one.begin(), []
    for place, entry in enumerate(row):
        desks = [0] * one.many()
        desks[one.entries()[entry][1]] = 1
        states, left, out, log = served(one, states, desks, PICKS[place % len(PICKS)], most)
        if able(left):
            return None
        told.append(out)
    return told


class Form(unittest.TestCase):
    def check(self, one):
        before = all_told(one)
        told = narrowed(one)
        self.assertEqual(all_told(one), before)
        self.assertEqual([name for name, k in told.entries()], [name for name, k in one.entries()])
        self.assertEqual(told.doors(), one.doors())
        self.assertEqual(told.many(), size_of(one))
        kinds = [told.clerk(k) for k in range(told.many())]
        periods = [one.clerk(k).period() for k in range(one.many())]
        copiers = [clerk for clerk in kinds if isinstance(clerk, Copy)]
        self.assertEqual(len(copiers), sum(periods))
        dealers = [clerk.text() for clerk in kinds if not isinstance(clerk, Copy)]
        self.assertEqual(dealers, ["deal 2"] * sum(dealers_for(period) for period in periods))
        self.assertTrue(all(isinstance(clerk, (Copy, Deal)) for clerk in kinds))
        self.assertEqual(sorted(clerk.row(0) for clerk in copiers),
                         sorted(one.clerk(k).row(t) for k in range(one.many()) for t in range(periods[k])))
        self.assertEqual(all_told(read(written(told))), all_told(told))
        return told

    def test_each_clerk(self):
        for clerk in each_clerk():
            for state in range(clerk.period()):
                self.check(alone(clerk, state))

    def test_numbers_told_by_the_document(self):
        for period, many in ((1, 1), (2, 3), (3, 6), (4, 7), (5, 12), (6, 13), (7, 14), (8, 15), (9, 24), (10, 25),
                             (11, 26), (12, 27)):
            one = Office([("a", Bundle(period), ["x"], 0)], [("in", "a")], ["x"])
            self.assertEqual(narrowed(one).many(), many)

    def test_made_up_offices(self):
        checked = 0
        for many in range(1, 8):
            for one in resting(many, range(20)) + unresting(many, range(20)):
                if size_of(one) <= 60:
                    self.check(one)
                    checked += 1
        self.assertGreater(checked, 120)

    def test_clerks_of_period_1_stay_with_their_rows_and_leads(self):
        one = Office([("a", Deal(1), ["b"], 0), ("b", Copy([2, 0, 1]), ["x", "a", "c"], 0),
                      ("c", Rows([[3]]), ["y"], 0),
                      ("d", Bundle(1), ["d"], 0), ("e", Copy([]), [], 0)], [("in", "b"), ("by", "e"), ("on", "b")],
                     ["y", "x"])
        told = self.check(one)
        places = dict(one.entries())
        # Each narrow clerk by the one in whose stead it stands, which its row and its place tell here.
        self.assertEqual([told.clerk(k).row(0) for k in range(5)], [one.clerk(k).row(0) for k in range(5)])
        self.assertEqual([told.leads(k) for k in range(5)], [one.leads(k) for k in range(5)])
        self.assertEqual(dict(told.entries()), places)

    def test_the_tree_by_the_bits_of_the_dockets_numbers(self):
        for period in range(2, 13):
            one = alone(rows_of(period, 3), period // 2)
            told = self.check(one)
            top = told.entries()[0][1]
            met = []
            for t in range(dealers_for(period) + 1):
                place, bits = top, t
                for level in range(dealers_for(period).bit_length()):
                    self.assertEqual(told.clerk(place).text(), "deal 2")
                    met.append(place)
                    place, bits = told.leads(place)[bits % 2], bits // 2
                if t >= period:
                    self.assertEqual(place, top)
                else:
                    self.assertEqual(told.clerk(place).text(),
                                     "copy " + ",".join(str(many) for many in one.clerk(0).row(t)))
                    self.assertEqual(lead_names(told, place), ["x", "y", "more"])
                    met.append(place)
            self.assertEqual(len(set(met)), period + dealers_for(period))

    def test_several_entries_at_one_clerk(self):
        seats = [("a", Bundle(5), ["b"], 3), ("b", Deal(3), ["a", "x", "y"], 1)]
        one = Office(seats, [("in", "b"), ("a", "a"), ("b", "b"), ("x", "a"), ("on", "a")], ["x", "y"])
        told = self.check(one)
        places = [k for name, k in told.entries()]
        self.assertEqual([places[0] == places[2], places[1] == places[3] == places[4], places[0] == places[1]],
                         [True, True, False])
        self.assertIs(parting(one, told), None)

    def test_a_narrow_one_is_made_narrow_again(self):
        one = office_of((Bundle(3), "b"), (Deal(2), "x a"))
        twice = self.check(self.check(one))
        self.assertEqual(twice.many(), 5 * 1 + 4 * 3)
        self.assertIs(parting(one, twice), None)


class Names(unittest.TestCase):
    def check(self, seats, entries, doors):
        one = Office(seats, entries, doors)
        told = narrowed(one)
        self.assertEqual(len(set(told.names() + doors)), told.many() + len(doors))
        self.assertIs(parting(one, told), None)
        return told

    def test_names_that_are_already_there(self):
        clerks, doors = ["a", "b", "c"], ["x", "y"]
        for turn in range(30):
            seats = [(clerks[0], Bundle(3), [clerks[1]], 1), (clerks[1], Deal(3), [clerks[2], doors[0], clerks[0]], 2),
                     (clerks[2], Rows([[0, 1], [2, 0]]), doors, 0)]
            told = self.check(seats, [("in", clerks[0])], doors)
            # The next time clerks and doors are called as clerks of the narrow office were.
            names = told.names()
            picked = [names[(turn + step * 3) % len(names)] for step in range(5)]
            if len(set(picked)) == 5:
                clerks, doors = picked[:3], picked[3:]

    def test_all_the_first_names_are_taken(self):
        letters = "abcdefghijklmnopqrstuvwxyz"
        for names in (list(letters), [first + second for first in "ab" for second in letters],
                      [first + second for first in "abc" for second in "abcdefgh"], [letter * 6 for letter in letters]):
            seats = [(name, Copy([1]), ["x"], 0) for name in names[:20] if name != "x"]
            seats[0] = (seats[0][0], Bundle(5), [seats[1][0]], 2)
            for doors in (["x"], ["x"] + names[20:23]):
                self.check(seats, [("in", seats[0][0])],
                           [door for door in doors if door not in [seat[0] for seat in seats]])


class Alike(unittest.TestCase):
    def test_each_clerk_from_each_state(self):
        for clerk in each_clerk():
            for state in range(clerk.period()):
                one = alone(clerk, state)
                told = narrowed(one)
                row = [0] * (2 * clerk.period() + 1)
                self.assertEqual(answers(told, row), answers(one, row))
                self.assertIs(parting(one, told), None)

    def test_leads_to_itself(self):
        for period in range(2, 13):
            rows = [[1, 0] if t % 3 else [0, 1] for t in range(period)]
            for state in range(period):
                one = Office([("a", Rows(rows), ["a", "x"], state)], [("in", "a")], ["x"])
                told = narrowed(one)
                self.assertEqual((paper(told)[0], parting(one, told)), ("rest", None))

    def test_another_state_is_not_alike(self):
        one, two = counter(0, 5), counter(1, 5)
        self.assertEqual(parting(one, narrowed(two)), ["in"] * 4)
        self.assertEqual(parting(narrowed(one), narrowed(two)), ["in"] * 4)

    def test_made_up_offices(self):
        by_hand = by_parting = 0
        for many in range(1, 6):
            for one in resting(many, range(40)):
                if size_of(one) > 60:
                    continue
                told = narrowed(one)
                entries = len(one.entries())
                for row in [[number % entries for number in numbers_in_turn(12, 0, 10 ** 6,
                                                                            seed)] for seed in range(3)]:
                    wanted, got = answers(one, row, 600), answers(told, row)
                    if wanted is not None and got is not None:
                        self.assertEqual(got, wanted)
                        by_hand += 1
                try:
                    self.assertIs(parting(one, told), None)
                    by_parting += 1
                except ValueError as error:
                    self.assertIn(type(error).__name__, ("TooMany", "TooLong"))
        self.assertTrue(by_hand > 150 and by_parting > 60, (by_hand, by_parting))

    def test_dockets_all_at_once(self):
        compared = 0
        for one in resting(3, range(60)):
            if size_of(one) > 60:
                continue
            told = narrowed(one)
            for number in (1, 2, 7, 1000, 10 ** 9):
                desks, narrow_desks = [0] * one.many(), [0] * told.many()
                for place, (entry, twin) in enumerate(zip(one.entries(), told.entries())):
                    desks[entry[1]] += number + place
                    narrow_desks[twin[1]] += number + place
                try:
                    wanted = tally(one, one.begin(), desks)[2]
                    got = tally(told, told.begin(), narrow_desks)[2]
                except ValueError:
                    continue
                self.assertEqual(got, wanted)
                compared += 1
        self.assertGreater(compared, 60)


class Papers(unittest.TestCase):
    def check(self, one):
        told = narrowed(one)
        first, second = paper(one), paper(told)
        self.assertEqual(second[0], first[0])
        self.assertTrue(is_rest(told, second[1]) if first[0] == "rest" else is_unrest(told, second[1]))
        return first[0]

    def test_made_up_offices(self):
        found = []
        for many in range(1, 7):
            for one in resting(many, range(30)) + unresting(many, range(30)):
                if size_of(one) <= 60:
                    found.append(self.check(one))
        self.assertTrue(min(found.count("rest"), found.count("unrest")) > 50)

    def test_just_at_rest_and_just_not(self):
        # Round a ring as many dockets come back as went out, or one fewer in so many rounds.
        for p, q in product((1, 2, 3, 5, 7, 12), repeat=2):
            if p + dealers_for(p) + q + dealers_for(q) > 60:
                continue
            for less in (0, 1):
                rows = [[1]] * (p - 1) + [[1 - less]]
                one = Office([("a", Rows(rows), ["b"], 0), ("b", Rows([[1, 0]] * q), ["a", "x"], 0)], [("in", "a")],
                             ["x"])
                self.assertEqual(self.check(one), "rest" if less else "unrest")

    def test_a_part_that_no_docket_comes_to(self):
        one = office_of((Bundle(3), "x"), (Deal(3), "b b b"))
        self.assertEqual(self.check(one), "unrest")
        refused(self, "Endless", parting, one, narrowed(one))


class Size(unittest.TestCase):
    def office(self, *periods):
        names = [first + second for first in "abcdefgh" for second in "abcdefgh"]
        seats = [(names[k], Bundle(period), ["x"], period - 1) for k, period in enumerate(periods)]
        return Office(seats, [("in", "aa")], ["x"])

    def test_60_clerks_and_61(self):
        for periods in ((12, 12, 3), (12, 12, 2, 2), (12, 12) + (1,) * 6, (8, 8, 8, 8), (2,) * 20, (3,) * 10, (5,) * 5,
                        (1,) * 60,
                        (4,) * 8 + (1,) * 4, (9, 9, 5), (10, 10, 3, 1, 1, 1, 1), (11, 11, 4, 1),
                        (7, 7, 7, 7, 1, 1, 1, 1), (6, 6, 6, 6, 4, 1)):
            one = self.office(*periods)
            told = narrowed(one)
            self.assertEqual(told.many(), 60)
            self.assertIs(parting(one, told, 2000), None)
            if len(periods) < 60:
                refused(self, "TooMany", narrowed, self.office(*periods, 1))
                refused(self, "TooMany", narrowed, self.office(1, *periods))

    def test_far_too_many(self):
        for periods in ((12, 12, 4), (12, 12, 12), (9, 9, 9), (2,) * 21, (12,) * 60, (2,) * 60):
            one = self.office(*periods)
            before = all_told(one)
            refused(self, "TooMany", narrowed, one)
            self.assertEqual(all_told(one), before)

    def test_ahead_of_what_its_paper_tells(self):
        one = Office([(name, Rows([[1]] * 12), [name], 0) for name in "abc"], [("in", "a")], ["x"])
        refused(self, "TooMany", narrowed, one)


class OfSums(unittest.TestCase):
    def check(self, entries, sums):
        """Whether the narrow office is small enough for what is promised of it; if so, that it holds."""
        one = made(entries, sums)
        if size_of(one) > 60:
            return False
        told = narrowed(one)
        amount = 10 ** 6
        for amounts in ([amount] * 6, [amount - 1, amount, 1, 0, amount // 2, 7], [1] * 6, [0] * 6,
                        [0, 0, 0, amount, 3, amount]):
            desks = [0] * told.many()
            for (name, k), many in zip(told.entries(), amounts):
                desks[k] += many
            wanted = [value(each, dict(zip(entries, amounts))) for door, each in sums]
            if told.many() <= 16:
                self.assertEqual(tally(told, told.begin(), desks)[2], wanted)
        self.assertEqual(paper(told)[0], "rest")
        return told.many() <= 16

    def test_of_at_most_sixteen_clerks_400_lists_are_enough(self):
        small = 0
        for parts in list(range(2, 14)) * 12:
            names = "abcdef"[:1 + small % 6]
            numbers = iter(numbers_in_turn(300, 0, 10 ** 9, parts + small))
            one = made_up_sum(numbers, parts, names)
            if all(str(one).count(f"'{name}'") <= 6 for name in names):
                small += 1 + self.check(list(names), [("x", one)])
        self.assertGreater(small, 150)

    def test_the_longest_ways(self):
        times = ("times", 9)
        for d in range(2, 9):
            for c in range(d):
                shares = [("share", c, d)]
                left = 16 - 1 - d - dealers_for(d)
                self.assertTrue(self.check(["a"], [("x", within(A, *[times] * left + shares))]))
                self.assertTrue(self.check(["a"], [("x", within(A, *shares + [times] * left))]))
        for first, second in product((2, 3, 4), repeat=2):
            shares = [("share", first - 1, first), ("share", 0, second)]
            left = 15 - first - second - dealers_for(first) - dealers_for(second)
            self.assertTrue(self.check(["a"], [("x", within(row_of(A, 6), *[times] * left + shares))]))
            self.assertTrue(self.check(["a"], [("x", within(row_of(A, 6), *shares + [times] * left))]))
        self.assertTrue(self.check(["a"], [("x", within(A, *[times] * 15))]))
        self.assertTrue(self.check(["a"], [("x", within(A, *[("share", 1, 2)] * 5))]))


class Kept(unittest.TestCase):
    def test_what_was_told_is_the_askers_own(self):
        one = office_of((Bundle(3), "b"), (Deal(2), "x a"))
        wanted = all_told(narrowed(one))
        told = narrowed(one)
        for each in (told.names(), told.doors(), told.entries(), told.begin(), told.leads(0), told.clerk(0).row(0)):
            changed(each)
        self.assertEqual(all_told(told), wanted)
        self.assertEqual(all_told(narrowed(one)), wanted)


if __name__ == "__main__":
    unittest.main()

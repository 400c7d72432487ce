"""Counts without stepping (points 2, 4, 13 and 17)."""

import unittest
from itertools import product

from dockethall.clerks import Bundle, Copy, Deal, Rows
from dockethall.handling import able, served
from dockethall.offices import Office
from dockethall.papers import is_unrest
from dockethall.tallies import tally
from helper import (PICKS, all_told, changed, long_way, numbers_in_turn, office_of, often, refused, resting,
                    states_of, unresting)

SEEDS = range(12)
GREAT = 10 ** 10


def next_list(one, states, desks, counts):
    """By the words of the document: what lay there, and what all send in as many handlings as the list before tells."""
    told = list(desks)
    for k, count in enumerate(counts):
        for lead, dockets in zip(one.leads(k), one.clerk(k).sent(states[k], count)):
            if lead >= 0:
                told[lead] += dockets
    return told


def first_lists(one, states, desks, many):
    """The first lists up to the one that is the same as its next one, but no more than so many."""
    lists = [list(desks)]
    while len(lists) < many and next_list(one, states, desks, lists[-1]) != lists[-1]:
        lists.append(next_list(one, states, desks, lists[-1]))
    return lists


def told_by(one, states, counts):
    """The tuple that a tally of these counts is."""
    out = [0] * len(one.doors())
    for k, count in enumerate(counts):
        for lead, dockets in zip(one.leads(k), one.clerk(k).sent(states[k], count)):
            if lead < 0:
                out[-1 - lead] += dockets
    states_then = [(state + count) % one.clerk(k).period() for k, (state, count) in enumerate(zip(states, counts))]
    return (list(counts), states_then, out)


def alone(*handed):
    """An office of a long way, and desks with one docket at its beginning."""
    seats = long_way(*handed)
    return Office(seats, [("in", "aa")], ["x"]), [1] + [0] * (len(seats) - 1)


class Counts(unittest.TestCase):
    def test_one_clerk_of_each_kind(self):
        for clerk, leads, state, dockets, wanted in (
            (Deal(2), "x y", 1, 5, ([5], [0], [2, 3])),
            (Deal(3), "a x y", 0, 4, ([6], [0], [2, 2])),
            (Bundle(3), "x", 2, 5, ([5], [1], [2, 0])),
            (Bundle(2), "a", 0, 5, ([9], [1], [0, 0])),
            (Bundle(2), "a", 1, 5, ([10], [1], [0, 0])),
            (Copy([]), "", 0, 7, ([7], [0], [0, 0])),
            (Copy([2, 0, 3]), "x a y", 0, 7, ([7], [0], [14, 21])),
            (Copy([1, 2]), "x x", 0, 7, ([7], [0], [21, 0])),
            (Rows([[2, 0], [0, 1], [0, 1]]), "a x", 0, 1, ([3], [0], [2, 0])),
            (Rows([[2, 0], [0, 1], [0, 1]]), "a x", 1, 1, ([1], [2], [1, 0])),
            (Rows([[1, 0, 1], [0, 1, 0], [0, 0, 0]]), "a a y", 2, 3, ([7], [0], [0, 2])),
        ):
            told = tally(office_of((clerk, leads)), [state], [dockets])
            self.assertEqual(told, wanted, (clerk.text(), leads))

    def test_several_clerks(self):
        one = office_of((Deal(2), "b x"), (Bundle(2), "a"), (Copy([2, 1]), "a y"))
        self.assertEqual(tally(one, [0, 1, 0], [1, 0, 2]), ([7, 4, 2], [1, 1, 0], [3, 2]))
        self.assertEqual(tally(one, [1, 0, 0], [0, 3, 0]), ([1, 3, 0], [0, 1, 0], [1, 0]))

    def test_no_dockets(self):
        for many in (1, 3, 60):
            for one in resting(many, SEEDS):
                for states in states_of(one):
                    wanted = ([0] * many, states, [0] * len(one.doors()))
                    self.assertEqual(tally(one, states, [0] * many), wanted)
                    self.assertEqual(tally(one, states, [0] * many, 1), wanted)

    def test_great_numbers(self):
        self.assertEqual(tally(office_of((Copy([9]), "x")), [0], [GREAT]), ([GREAT], [0], [9 * GREAT, 0]))
        self.assertEqual(tally(office_of((Bundle(11), "a")), [0], [GREAT]), ([(11 * GREAT - 1) // 10], [10], [0, 0]))
        one = office_of((Deal(2), "b x"), (Bundle(3), "a"))
        told = tally(one, [0, 0], [GREAT, GREAT])
        self.assertEqual(told, told_by(one, [0, 0], told[0]))
        self.assertEqual(told[0], next_list(one, [0, 0], [GREAT, GREAT], told[0]))

    def test_kinds(self):
        told = tally(office_of((Deal(2), "b x"), (Copy([1]), "y")), [0, 0], [3, 1])
        self.assertEqual([type(told)] + [type(each) for each in told], [tuple, list, list, list])
        self.assertEqual([len(each) for each in told], [2, 2, 2])
        self.assertEqual({type(number) for each in told for number in each}, {int})


class AsServed(unittest.TestCase):
    def test_by_several_rows_of_picks(self):
        found = 0
        for many in (1, 2, 3, 4, 6, 9, 15, 60):
            for one in resting(many, SEEDS, 3 + many % 2):
                for states in states_of(one):
                    desks = numbers_in_turn(many, 0, 4, many + states[0])
                    first = served(one, states, desks, None, 3000)
                    if not able(first[1]):
                        found += 1
                        told = tally(one, states, desks, 2000)
                        for picks in PICKS[::3]:
                            then, left, out, log = served(one, states, desks, picks, 3000)
                            self.assertEqual(told, (often(log, many), then, out))
        self.assertGreater(found, 150)

    def test_single_dockets_on_each_desk(self):
        for many in (1, 2, 5, 12):
            for one in resting(many, SEEDS):
                for k in range(many):
                    desks = [0] * many
                    desks[k] = 1
                    then, left, out, log = served(one, one.begin(), desks, None, 5000)
                    if not able(left):
                        self.assertEqual(tally(one, one.begin(), desks, 2000), (often(log, many), then, out))

    def test_no_row_of_picks_ever_handles_more(self):
        for one in resting(6, SEEDS):
            counts = tally(one, one.begin(), [GREAT] * 6, 2000)[0]
            few = tally(one, one.begin(), [2] * 6, 2000)[0]
            for picks in PICKS:
                for most in (1, 9, 40):
                    log = served(one, one.begin(), [2] * 6, picks, most)[3]
                    self.assertTrue(all(now <= all_told for now, all_told in zip(often(log, 6), few)))
            self.assertTrue(all(small <= great for small, great in zip(few, counts)))


class ByRounds(unittest.TestCase):
    def cases(self):
        for many in (1, 2, 3, 5, 8, 60):
            for one in resting(many, SEEDS, 3 + many % 3):
                for place, most in enumerate((1, 12, 1000, GREAT)):
                    yield one, states_of(one)[place], numbers_in_turn(many, 0, most, place + many)

    def test_the_first_list_that_is_the_same_as_its_next_one(self):
        lengths = []
        for one, states, desks in self.cases():
            lists = first_lists(one, states, desks, 401)
            lengths.append(len(lists))
            if len(lists) <= 400:
                self.assertEqual(tally(one, states, desks), told_by(one, states, lists[-1]))
            else:
                refused(self, "TooLong", tally, one, states, desks)
        self.assertGreater(len([length for length in lengths if length > 20]), 20)

    def test_just_enough_lists_and_one_too_few(self):
        for one, states, desks in self.cases():
            lists = first_lists(one, states, desks, 2000)
            if len(lists) < 2000:
                self.assertEqual(tally(one, states, desks, len(lists)), told_by(one, states, lists[-1]))
                self.assertEqual(tally(one, states, desks, most=2000), told_by(one, states, lists[-1]))
                if len(lists) > 1:
                    refused(self, "TooLong", tally, one, states, desks, len(lists) - 1)
                    refused(self, "TooLong", tally, one, states, desks, 1)

    def test_the_least_list(self):
        """No list below the counts at every place is what its next one is."""
        for one in resting(2, range(30), 4):
            for desks in ([1, 0], [0, 1], [2, 3]):
                for states in states_of(one):
                    counts = tally(one, states, desks, 2000)[0]
                    if max(counts) < 40:
                        found = [pair for pair in product(*[range(count + 1) for count in counts])
                                 if next_list(one, states, desks, pair) == list(pair)]
                        self.assertEqual(found, [tuple(counts)])

    def test_not_just_any_list_that_is_the_same_as_its_next_one(self):
        one = office_of((Rows([[0, 1], [1, 0], [1, 0], [0, 0]]), "a x"))
        # Without a docket, one that came of nothing would be handled again and again from state 1 on.
        self.assertEqual(next_list(one, [1], [0], [1]), [1])
        self.assertEqual(tally(one, [1], [0]), ([0], [1], [0, 0]))


class Never(unittest.TestCase):
    def check(self, one, states, desks, *most):
        error = refused(self, "Endless", tally, one, states, desks, *most)
        self.assertIs(type(error.flow), list)
        self.assertTrue(is_unrest(one, error.flow))

    def test_whatever_lies_there(self):
        for many in (1, 2, 3, 6, 60):
            offices = unresting(many, SEEDS)
            self.assertGreater(len(offices), 1)
            for one in offices:
                for states in states_of(one):
                    for desks in ([0] * many, [1] + [0] * (many - 1), numbers_in_turn(many, 0, GREAT, many)):
                        self.check(one, states, desks)

    def test_though_what_lies_there_would_rest(self):
        one = office_of((Copy([1]), "x"), (Copy([1]), "b"))
        for desks in ([0, 0], [5, 0], [0, 1]):
            self.check(one, [0, 0], desks)
        self.check(office_of((Rows([[2, 0], [0, 1]]), "a x")), [1], [1])
        self.check(office_of((Copy([1]), "a")), [0], [0])

    def test_ahead_of_too_long(self):
        for rows in ([(Copy([1]), "a")], [(Copy([1]), "b"), (Copy([1]), "a")], [(Copy([1]), "x"), (Copy([2]), "b")]):
            one = office_of(*rows)
            for most in (1, 2, 2000):
                self.check(one, one.begin(), [1] * one.many(), most)

    def test_nothing_but_just_rest(self):
        self.assertEqual(tally(office_of((Rows([[1]] * 11 + [[0]]), "a")), [0], [1]), ([12], [0], [0, 0]))
        self.check(office_of((Rows([[1]] * 12), "a")), [0], [1])


class Long(unittest.TestCase):
    def test_left_out_it_is_400(self):
        one, desks = alone(0, 57, 7)
        told = tally(one, one.begin(), desks)
        self.assertEqual((sum(told[0]), told[2]), (400, [1]))
        self.assertEqual(tally(one, one.begin(), desks, 400), told)
        self.assertEqual(tally(one, one.begin(), desks, 2000), told)
        refused(self, "TooLong", tally, one, one.begin(), desks, 399)
        one, desks = alone(1, 57, 7)
        refused(self, "TooLong", tally, one, one.begin(), desks)
        refused(self, "TooLong", tally, one, one.begin(), desks, 400)
        self.assertEqual(sum(tally(one, one.begin(), desks, 401)[0]), 401)

    def test_2000(self):
        one, desks = alone(15, 33, 12, 5)
        told = tally(one, one.begin(), desks, 2000)
        self.assertEqual((sum(told[0]), told[1], told[2]), (2000, one.begin(), [1]))
        refused(self, "TooLong", tally, one, one.begin(), desks, 1999)
        refused(self, "TooLong", tally, one, one.begin(), desks)
        one, desks = alone(16, 33, 12, 5)
        refused(self, "TooLong", tally, one, one.begin(), desks, 2000)
        self.assertEqual(served(one, one.begin(), desks, None, 5000)[3].count(0), 1)

    def test_1(self):
        one = office_of((Deal(2), "b x"), (Copy([3]), "y"))
        self.assertEqual(tally(one, [0, 0], [0, 0], 1), ([0, 0], [0, 0], [0, 0]))
        self.assertEqual(tally(one, [0, 0], [0, GREAT], 1), ([0, GREAT], [0, 0], [0, 3 * GREAT]))
        self.assertEqual(tally(one, [1, 0], [1, 4], 1), ([1, 4], [0, 0], [1, 12]))
        refused(self, "TooLong", tally, one, [0, 0], [1, 0], 1)
        refused(self, "TooLong", tally, one, [1, 0], [2, 0], 1)
        self.assertEqual(tally(one, [1, 0], [2, 0], 2), ([2, 1], [1, 0], [1, 3]))

    def test_a_list_that_is_only_the_same_at_some_desks(self):
        one = office_of((Copy([1]), "b"), (Copy([1]), "c"), (Copy([1]), "d"), (Copy([1]), "x"))
        for most in (1, 2, 3):
            refused(self, "TooLong", tally, one, [0] * 4, [1, 0, 0, 0], most)
        self.assertEqual(tally(one, [0] * 4, [1, 0, 0, 0], 4), ([1] * 4, [0] * 4, [1, 0]))

    def test_as_many_handlings_at_once_are_one_list(self):
        one = office_of((Bundle(2), "b"), (Bundle(2), "c"), (Bundle(2), "x"))
        self.assertEqual(tally(one, [0] * 3, [GREAT, 0, 0], 3)[2], [GREAT // 8, 0])
        refused(self, "TooLong", tally, one, [0] * 3, [GREAT, 0, 0], 2)


class InParts(unittest.TestCase):
    def test_the_same_as_all_at_once(self):
        for many in (1, 2, 4, 9, 30):
            for one in resting(many, SEEDS):
                for states in states_of(one):
                    parts = [numbers_in_turn(many, 0, most, many + most) for most in (1, 5, GREAT // 4)]
                    desks = [sum(each) for each in zip(*parts)]
                    at_once = tally(one, states, desks, 2000)
                    counts, then, out = [0] * many, states, [0] * len(one.doors())
                    for part in parts:
                        told = tally(one, then, part, 2000)
                        counts = [sum(each) for each in zip(counts, told[0])]
                        then = told[1]
                        out = [sum(each) for each in zip(out, told[2])]
                    self.assertEqual((counts, then, out), at_once)


class Kept(unittest.TestCase):
    def test_what_is_handed_in_stays(self):
        one = office_of((Deal(2), "b x"), (Bundle(3), "a"))
        before = all_told(one)
        states, desks = [1, 2], [4, 5]
        wanted = tally(one, states, desks)
        self.assertEqual((states, desks), ([1, 2], [4, 5]))
        refused(self, "TooLong", tally, one, states, desks, 1)
        self.assertEqual((states, desks), ([1, 2], [4, 5]))
        for each in tally(one, states, desks):
            changed(each)
        self.assertEqual((states, desks), ([1, 2], [4, 5]))
        self.assertEqual(tally(one, states, desks), wanted)
        self.assertEqual(all_told(one), before)

    def test_what_was_told_stays(self):
        one = office_of((Deal(2), "b x"), (Copy([1]), "y"))
        for states, desks in (([0, 0], [0, 0]), ([1, 0], [3, 1])):
            told = tally(one, states, desks)
            again = tally(one, list(states), list(desks))
            changed(states)
            changed(desks)
            tally(one, [1, 0], [9, 9])
            self.assertEqual(told, again)

    def test_a_flow_is_the_askers_own(self):
        one = office_of((Copy([4]), "b"), (Bundle(4), "a"), (Deal(2), "x a"))
        states, desks = one.begin(), [1, 2, 3]
        first = refused(self, "Endless", tally, one, states, desks)
        wanted = list(first.flow)
        changed(first.flow)
        self.assertEqual(refused(self, "Endless", tally, one, states, desks).flow, wanted)
        self.assertEqual((states, desks), (one.begin(), [1, 2, 3]))


if __name__ == "__main__":
    unittest.main()

"""Handlings one by one, in any order (points 2, 11, 12 and 13)."""

import unittest

from dockethall.clerks import Bundle, Copy, Deal, Rows
from dockethall.handling import able, handled, served
from dockethall.offices import Office
from helper import (HUGE, PICKS, all_told, changed, listed_things, made_up, numbers_in_turn, odd_things, office_of, often,
                    refused, texts)


def by_names(made, states, desks, k):
    """One handling, told straight from what the office is made of."""
    seats, entries, doors = made
    names = [seat[0] for seat in seats]
    on_desks = dict(zip(names, desks))
    gone = dict.fromkeys(doors, 0)
    name, clerk, leads, begin = seats[k]
    on_desks[name] -= 1
    for lead, dockets in zip(leads, clerk.row(states[k])):
        if lead in gone:
            gone[lead] += dockets
        else:
            on_desks[lead] += dockets
    behind = states[k] + 1 if states[k] + 1 < clerk.period() else 0
    return (states[:k] + [behind] + states[k + 1:], [on_desks[each] for each in names], [gone[door] for door in doors])


def by_steps(one, states, desks, picks, most):
    """Served by single handlings."""
    out = [0] * len(one.doors())
    log = []
    while len(log) < most and able(desks):
        ready = able(desks)
        pick = picks[len(log) % len(picks)] if picks else 0
        k = ready[pick % len(ready)]
        states, desks, gone = handled(one, states, desks, k)
        out = [before + now for before, now in zip(out, gone)]
        log.append(k)
    return (states, desks, out, log)


class Able(unittest.TestCase):
    def test_by_rising_numbers(self):
        self.assertEqual(able([0, 3, 0, 1, 10 ** 59]), [1, 3, 4])
        self.assertEqual(able([1]), [0])
        self.assertEqual(able([2, 1]), [0, 1])
        self.assertEqual(able([7] * 60), list(range(60)))

    def test_none(self):
        self.assertEqual(able([0]), [])
        self.assertEqual(able([0] * 60), [])
        self.assertEqual(able([]), [])

    def test_a_new_list(self):
        desks = [0, 1, 2]
        told = able(desks)
        self.assertIs(type(told), list)
        changed(told)
        self.assertEqual((desks, able(desks)), ([0, 1, 2], [1, 2]))
        empty = []
        changed(able(empty + [1]))
        able(empty).append(1)
        self.assertEqual((empty, able(empty)), ([], []))


class Handled(unittest.TestCase):
    def test_each_state_of_a_deal(self):
        one = office_of((Deal(4), "b a x y"), (Copy([]), ""))
        self.assertEqual(handled(one, [0, 0], [5, 2], 0), ([1, 0], [4, 3], [0, 0]))
        self.assertEqual(handled(one, [1, 0], [5, 2], 0), ([2, 0], [5, 2], [0, 0]))
        self.assertEqual(handled(one, [2, 0], [5, 2], 0), ([3, 0], [4, 2], [1, 0]))
        self.assertEqual(handled(one, [3, 0], [5, 2], 0), ([0, 0], [4, 2], [0, 1]))

    def test_each_state_of_a_bundle(self):
        one = office_of((Bundle(3), "y"), (Bundle(2), "a"))
        self.assertEqual(handled(one, [0, 0], [1, 0], 0), ([1, 0], [0, 0], [0, 0]))
        self.assertEqual(handled(one, [1, 0], [1, 0], 0), ([2, 0], [0, 0], [0, 0]))
        self.assertEqual(handled(one, [2, 0], [1, 0], 0), ([0, 0], [0, 0], [0, 1]))
        self.assertEqual(handled(one, [2, 0], [0, 1], 1), ([2, 1], [0, 0], [0, 0]))
        self.assertEqual(handled(one, [2, 1], [0, 1], 1), ([2, 0], [1, 0], [0, 0]))

    def test_a_copy(self):
        one = office_of((Copy([2, 0, 1, 3, 4]), "b b a x y"), (Copy([]), ""), (Copy([1, 9]), "x b"))
        self.assertEqual(handled(one, [0, 0, 0], [1, 0, 0], 0), ([0, 0, 0], [1, 2, 0], [3, 4]))
        self.assertEqual(handled(one, [0, 0, 0], [1, 4, 0], 1), ([0, 0, 0], [1, 3, 0], [0, 0]))
        self.assertEqual(handled(one, [0, 0, 0], [1, 4, 1], 2), ([0, 0, 0], [1, 13, 0], [1, 0]))

    def test_each_state_of_rows(self):
        one = office_of((Rows([[1, 0, 0], [2, 3, 1], [0, 9, 0]]), "b b x"), (Rows([[], []]), ""))
        self.assertEqual(handled(one, [0, 1], [1, 0], 0), ([1, 1], [0, 1], [0, 0]))
        self.assertEqual(handled(one, [1, 1], [1, 0], 0), ([2, 1], [0, 5], [1, 0]))
        self.assertEqual(handled(one, [2, 1], [1, 0], 0), ([0, 1], [0, 9], [0, 0]))
        self.assertEqual(handled(one, [2, 1], [1, 6], 1), ([2, 0], [1, 5], [0, 0]))
        self.assertEqual(handled(one, [2, 0], [1, 6], 1), ([2, 1], [1, 5], [0, 0]))

    def test_two_outs_to_one_desk_to_its_own_and_by_one_door(self):
        one = office_of((Copy([1, 2]), "b b"), (Copy([3, 4]), "b b"), (Copy([5, 6]), "y y"))
        self.assertEqual(handled(one, [0] * 3, [1, 1, 1], 0), ([0] * 3, [0, 4, 1], [0, 0]))
        self.assertEqual(handled(one, [0] * 3, [1, 1, 1], 1), ([0] * 3, [1, 7, 1], [0, 0]))
        self.assertEqual(handled(one, [0] * 3, [1, 1, 1], 2), ([0] * 3, [1, 1, 0], [0, 11]))

    def test_every_door(self):
        one = Office([("k", Copy([1, 2, 3, 4, 5, 6]), list("fbdace"), 0)], [("in", "k")], list("abcdef"))
        self.assertEqual(handled(one, [0], [1], 0), ([0], [0], [4, 2, 5, 3, 6, 1]))

    def test_great_numbers_of_dockets(self):
        one = office_of((Copy([9, 9]), "b a"), (Copy([]), ""))
        most = 10 ** 60 - 1
        self.assertEqual(handled(one, [0, 0], [most, most], 0), ([0, 0], [most + 8, most + 9], [0, 0]))

    def test_kinds(self):
        told = handled(office_of((Deal(1), "x")), [0], [1], 0)
        self.assertEqual([type(told)] + [type(each) for each in told], [tuple, list, list, list])

    def test_many_offices(self):
        for many in (1, 2, 5, 30, 60):
            for seed in range(10):
                made = made_up(seed, many, 10)
                one = Office(*made)
                states, desks = one.begin(), numbers_in_turn(many, 1, 10 ** 59, seed)
                for k in range(many):
                    for turn in range(one.clerk(k).period() + 1):
                        told = handled(one, states, desks, k)
                        self.assertEqual(told, by_names(made, states, desks, k))
                        states = told[0]


class NoDockets(unittest.TestCase):
    def setUp(self):
        self.one = office_of((Deal(2), "b x"), (Copy([1]), "x"), (Bundle(2), "y"))

    def test_no_docket_lies_there(self):
        for k in range(3):
            refused(self, "NoDocket", handled, self.one, [0, 0, 0], [0, 0, 0], k)
            desks = [1, 1, 1]
            desks[k] = 0
            refused(self, "NoDocket", handled, self.one, [0, 0, 0], desks, k)
            handled(self.one, [0, 0, 0], [1, 1, 1], k)

    def test_what_is_no_clerks_number(self):
        things = [-1, -2, -3, -4, 3, 4, 60, HUGE, -HUGE, 10 ** 18, "0", "a", "b"]
        for thing in things + odd_things() + listed_things() + texts() + [[0], (0,), {0: 1}, {"a"}]:
            refused(self, "NoDocket", handled, self.one, [0, 0, 0], [1, 1, 1], thing)
            refused(self, "NoDocket", handled, self.one, [0, 0, 0], [0, 0, 0], thing)

    def test_of_one_clerk(self):
        one = office_of((Copy([1]), "a"))
        for thing in (True, False, -1, 1, None):
            refused(self, "NoDocket", handled, one, [0], [1], thing)

    def test_what_is_handed_in_stays(self):
        states, desks = [1, 0, 1], [0, 1, 1]
        for thing in (0, 3, -1, None):
            refused(self, "NoDocket", handled, self.one, states, desks, thing)
        self.assertEqual((states, desks), ([1, 0, 1], [0, 1, 1]))


class Served(unittest.TestCase):
    def setUp(self):
        self.three = office_of((Copy([1]), "x"), (Copy([1]), "x"), (Copy([1]), "y"))

    def log(self, picks, desks, most=2000):
        return served(self.three, [0, 0, 0], desks, picks, most)[3]

    def test_without_picks_the_first_one(self):
        for picks in (None, []):
            self.assertEqual(self.log(picks, [2, 1, 2]), [0, 0, 1, 2, 2])
        self.assertEqual(served(self.three, [0, 0, 0], [2, 1, 2]), ([0, 0, 0], [0, 0, 0], [3, 2], [0, 0, 1, 2, 2]))

    def test_one_pick(self):
        self.assertEqual(self.log([0], [2, 1, 2]), [0, 0, 1, 2, 2])
        self.assertEqual(self.log([1], [2, 1, 2]), [1, 2, 2, 0, 0])
        self.assertEqual(self.log([2], [2, 1, 2]), [2, 2, 0, 0, 1])
        self.assertEqual(self.log([3], [2, 1, 2]), [0, 0, 2, 2, 1])

    def test_several_picks(self):
        self.assertEqual(self.log([0, 1], [2, 1, 2]), [0, 1, 0, 2, 2])
        self.assertEqual(self.log([2, 0, 1], [2, 1, 2]), [2, 0, 1, 0, 2])
        self.assertEqual(self.log([0, 0, 0, 0, 2, 9, 9], [2, 1, 2]), [0, 0, 1, 2, 2])

    def test_greater_than_the_number_of_those_able(self):
        self.assertEqual(self.log([3], [1, 1, 1]), [0, 2, 1])
        self.assertEqual(self.log([10 ** 18], [1, 1, 1]), [1, 0, 2])
        self.assertEqual(self.log([10 ** 18 - 1, 10 ** 18], [1, 1, 1]), [0, 1, 2])

    def test_picks_by_the_number_of_the_handling(self):
        self.assertEqual(self.log([0, 1, 2], [9, 9, 9])[:9], [0, 1, 2] * 3)
        self.assertEqual(self.log([2, 2, 0, 1], [9, 9, 9])[:8], [2, 2, 0, 1] * 2)

    def test_most(self):
        whole = self.log([2, 0, 1], [2, 1, 2])
        for most in range(8):
            self.assertEqual(self.log([2, 0, 1], [2, 1, 2], most), whole[:most])
        self.assertEqual(served(self.three, [0] * 3, [2, 1, 2], None, 0), ([0, 0, 0], [2, 1, 2], [0, 0], []))
        self.assertEqual(served(self.three, [0] * 3, [2, 1, 2], None, 3), ([0, 0, 0], [0, 0, 2], [3, 0], [0, 0, 1]))
        self.assertEqual(served(self.three, [0] * 3, [2, 1, 2], [1], most=1), ([0] * 3, [2, 0, 2], [1, 0], [1]))

    def test_most_left_out(self):
        ring = office_of((Copy([1]), "b"), (Copy([1, 1]), "a x"))
        told = served(ring, [0, 0], [1, 0])
        self.assertEqual(told, ([0, 0], [1, 0], [1000, 0], [0, 1] * 1000))
        self.assertEqual(len(served(ring, [0, 0], [1, 1], [1, 0, 3])[3]), 2000)
        self.assertEqual(len(served(ring, [0, 0], [1, 1], [1, 0, 3], 5000)[3]), 5000)
        self.assertEqual(len(served(ring, [0, 0], [1, 1], most=1999)[3]), 1999)

    def test_rest_at_most_and_one_ahead_of_it(self):
        self.assertEqual(served(self.three, [0] * 3, [2000, 0, 0])[1:3], ([0, 0, 0], [2000, 0]))
        self.assertEqual(served(self.three, [0] * 3, [2001, 0, 0])[1:3], ([1, 0, 0], [2000, 0]))
        self.assertEqual(served(self.three, [0] * 3, [10 ** 59, 0, 0])[1], [10 ** 59 - 2000, 0, 0])

    def test_no_dockets(self):
        self.assertEqual(served(self.three, [0] * 3, [0] * 3, [4]), ([0] * 3, [0] * 3, [0, 0], []))

    def test_what_went_out_in_all(self):
        one = office_of((Rows([[1, 2, 0], [0, 1, 3]]), "x y b"), (Bundle(2), "y"))
        self.assertEqual(served(one, [0, 0], [3, 0]), ([1, 1], [0, 0], [2, 6], [0, 0, 0, 1, 1, 1]))
        self.assertEqual(served(one, [1, 1], [3, 0]), ([0, 1], [0, 0], [1, 7], [0, 0, 0, 1, 1, 1, 1, 1, 1]))

    def test_by_single_handlings(self):
        for many in (1, 2, 3, 6, 12):
            for seed in range(6):
                one = Office(*made_up(seed, many, 4))
                desks = numbers_in_turn(many, 0, 3, seed)
                for picks in PICKS:
                    told = served(one, one.begin(), desks, picks, 60)
                    self.assertEqual(told, by_steps(one, one.begin(), desks, picks, 60))

    def test_kinds(self):
        told = served(self.three, [0] * 3, [1] * 3)
        self.assertEqual([type(told)] + [type(each) for each in told], [tuple, list, list, list, list])


class AnyOrder(unittest.TestCase):
    def resting(self):
        """Offices and dockets that the first row of picks brings to rest."""
        for many in (1, 2, 3, 4, 6, 9, 15, 60):
            for seed in range(24):
                one = Office(*made_up(seed, many, 3 + seed % 3))
                desks = numbers_in_turn(many, 0, 4, seed)
                if not able(served(one, one.begin(), desks)[1]):
                    yield one, desks

    def test_all_come_to_rest_alike(self):
        for one, desks in self.resting():
            first = served(one, one.begin(), desks)
            for picks in PICKS:
                told = served(one, one.begin(), desks, picks)
                self.assertEqual(told[:3], first[:3])
                self.assertEqual(often(told[3], one.many()), often(first[3], one.many()))

    def test_there_are_enough_of_them_and_the_orders_are_unlike(self):
        offices = list(self.resting())
        self.assertGreater(len(offices), 100)
        unlike = [len({tuple(served(one, one.begin(), desks, picks)[3]) for picks in PICKS}) for one, desks in offices]
        self.assertGreater(sum(unlike), 3 * len(unlike))

    def test_no_row_of_picks_handles_more(self):
        for one, desks in self.resting():
            counts = often(served(one, one.begin(), desks)[3], one.many())
            for picks in PICKS:
                for most in (1, 7, 30):
                    log = served(one, one.begin(), desks, picks, most)[3]
                    self.assertTrue(all(few <= all_told for few, all_told in zip(often(log, one.many()), counts)))

    def test_where_one_does_not_rest_none_does(self):
        found = 0
        for many in (1, 2, 4, 8):
            for seed in range(16):
                one = Office(*made_up(seed, many, 5))
                desks = numbers_in_turn(many, 0, 2, seed)
                if able(served(one, one.begin(), desks, None, 1000)[1]):
                    found += 1
                    for picks in PICKS:
                        self.assertEqual(len(served(one, one.begin(), desks, picks, 1000)[3]), 1000)
        self.assertGreater(found, 5)

    def test_as_written_out(self):
        one = office_of((Deal(2), "b x"), (Bundle(2), "a"), (Copy([2, 1]), "a y"))
        for picks in PICKS:
            states, desks, out, log = served(one, [0, 1, 0], [1, 0, 2], picks)
            self.assertEqual((states, desks, out), ([1, 1, 0], [0, 0, 0], [3, 2]))
            self.assertEqual(often(log, 3), [7, 4, 2])


class Kept(unittest.TestCase):
    def test_handled(self):
        one = office_of((Deal(2), "b x"), (Copy([1]), "x"))
        states, desks = [1, 0], [2, 1]
        told = handled(one, states, desks, 0)
        self.assertEqual((states, desks), ([1, 0], [2, 1]))
        for each in told:
            changed(each)
        self.assertEqual((states, desks), ([1, 0], [2, 1]))
        self.assertEqual(handled(one, states, desks, 0), ([0, 0], [1, 1], [1, 0]))

    def test_what_was_told_stays(self):
        one = office_of((Deal(2), "b x"), (Copy([1]), "x"))
        states, desks = [0, 0], [2, 1]
        first = handled(one, states, desks, 0)
        later = served(one, states, desks, [1])
        handled(one, first[0], first[1], 0)
        served(one, states, desks, [0])
        changed(states)
        changed(desks)
        self.assertEqual(first, ([1, 0], [1, 2], [0, 0]))
        self.assertEqual(later, ([0, 0], [0, 0], [3, 0], [1, 0, 1, 0]))

    def test_served(self):
        one = office_of((Deal(2), "b x"), (Copy([1]), "x"))
        before = all_told(one)
        states, desks, picks = [1, 0], [2, 1], [1, 0]
        for most in (0, 2, 2000):
            wanted = served(one, states, desks, picks, most)
            told = served(one, states, desks, picks, most)
            for each in told:
                changed(each)
            self.assertEqual((states, desks, picks), ([1, 0], [2, 1], [1, 0]))
            self.assertEqual(served(one, states, desks, picks, most), wanted)
        self.assertEqual(all_told(one), before)


if __name__ == "__main__":
    unittest.main()

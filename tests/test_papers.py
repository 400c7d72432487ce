"""Papers of rest and unrest, and what comes of them (points 2, 4, 14, 15 and 16)."""

import unittest
from fractions import Fraction
from math import gcd

from dockethall.clerks import Bundle, Copy, Deal, Rows
from dockethall.handling import able, handled, served
from dockethall.leaving import left_out, shares_of
from dockethall.notes import read
from dockethall.offices import Office
from dockethall.papers import is_rest, is_unrest, paper
from helper import all_told, changed, made_up, numbers_in_turn, office_of, plain

FEW = (1, 2, 3, 5, 8)


def sends(seats, c):
    """What clerk c sends in its mean handling to each clerk, told straight from what the office is made of."""
    names = [seat[0] for seat in seats]
    clerk, leads = seats[c][1], seats[c][2]
    rows = [clerk.row(state) for state in range(clerk.period())]
    return [Fraction(sum(row[out] for row in rows for out, lead in enumerate(leads) if lead == name), clerk.period())
            for name in names]


def rests(seats, prices):
    """By the words of the document."""
    numbers = [Fraction(*price) for price in prices]
    if any(number <= 0 for number in numbers):
        return False
    return all(numbers[c] > sum(part * price for part, price in zip(sends(seats, c), numbers)) for c in range(len(seats)))


def goes_round(seats, flow):
    """By the words of the document."""
    many = range(len(seats))
    if any(count < 0 or count % seats[c][1].period() for c, count in enumerate(flow)) or not any(flow):
        return False
    table = [sends(seats, c) for c in many]
    return all(sum(flow[c] * table[c][d] for c in many) >= flow[d] for d in many)


def ring(*texts):
    """Clerks by their texts, each sending all to the next one, the last to the first one."""
    rows = ["door out"]
    for k, text in enumerate(texts):
        rows.append(f"clerk {chr(97 + k)} {text} at 0 to {chr(97 + (k + 1) % len(texts))}")
    return read("; ".join(rows + ["entry in a"]))


def offices():
    """What offices are made of, some that rest and some that never do."""
    for many in FEW:
        for busy in (2, 3, 4, 7):
            for seed in range(15):
                yield made_up(seed, many, busy)
    for seed in range(4):
        yield made_up(seed, 60, 3 + seed)


def wide(seed, many, most):
    """An office whose clerks all have twelve rows of six outs, to six other desks, and so great numbers in its paper."""
    numbers = iter(numbers_in_turn(72 * many, 0, 10 ** 9, seed))
    names = [first + second for first in "abcdefgh" for second in "abcdefgh"][:many]
    seats = []
    for c in range(many):
        rows = [[1 if next(numbers) % 100 < most else 0 for out in range(6)] for row in range(12)]
        seats.append((names[c], Rows(rows), [names[(c * 7 + 5 * out + 1) % many] for out in range(6)], 0))
    return (seats, [("in", "aa")], ["out"])


class Papers(unittest.TestCase):
    def test_prices_as_written_out(self):
        self.assertEqual(paper(office_of((Copy([]), ""))), ("rest", [(1, 1)]))
        self.assertEqual(paper(office_of((Copy([9]), "x"))), ("rest", [(1, 1)]))
        self.assertEqual(paper(office_of((Bundle(12), "a"))), ("rest", [(12, 11)]))
        self.assertEqual(paper(office_of((Copy([2, 3]), "b b"), (Deal(2), "x b"))), ("rest", [(11, 1), (2, 1)]))
        self.assertEqual(paper(office_of((Deal(3), "a b x"), (Bundle(2), "a"))), ("rest", [(8, 3), (7, 3)]))

    def test_rings(self):
        for texts in (["copy 1"], ["copy 2"], ["deal 1"], ["bundle 1"], ["copy 1"] * 9, ["copy 4", "bundle 4"],
                      ["copy 9", "bundle 3", "bundle 3"], ["rows 1/2", "rows 2/1/0/0"], ["rows 0/9", "rows 0/0/1"],
                      ["rows 0/0/0/0/0/0/0/0/0/0/0/9", "copy 2"], ["copy 2"] * 26):
            self.assertEqual(paper(ring(*texts))[0], "unrest", texts)
        for texts in (["copy 0"], ["bundle 2"], ["copy 1"] * 9 + ["bundle 2"], ["copy 4", "bundle 5"],
                      ["copy 9", "bundle 5", "bundle 2"], ["rows 1/2", "rows 2/1/0/0/0"], ["rows 0/9", "rows 0/0/0/0/1"],
                      ["rows 0/0/0/0/0/0/0/0/0/0/0/9", "copy 1"], ["copy 2"] * 25 + ["copy 0"]):
            self.assertEqual(paper(ring(*texts))[0], "rest", texts)

    def test_a_clerk_that_keeps_just_one(self):
        self.assertEqual(paper(office_of((Rows([[2, 1], [0, 1]]), "a x")))[0], "unrest")
        self.assertEqual(paper(office_of((Rows([[1, 1], [0, 1]]), "a x")))[0], "rest")
        self.assertEqual(paper(office_of((Rows([[1, 1], [0, 0]]), "a a")))[0], "unrest")
        self.assertEqual(paper(office_of((Rows([[1, 1], [0, 0], [0, 0]]), "a a")))[0], "rest")

    def test_only_a_part_never_rests(self):
        for rows in ([(Copy([1]), "x"), (Copy([1]), "b")], [(Copy([1]), "a"), (Copy([9]), "x")],
                     [(Deal(2), "x y"), (Copy([1]), "c"), (Copy([1, 1]), "b a")],
                     [(Deal(2), "b x"), (Copy([1]), "c"), (Copy([1]), "b")],
                     [(Copy([1]), "b"), (Copy([1]), "a"), (Deal(2), "c a")]):
            one = office_of(*rows)
            kind, flow = paper(one)
            self.assertEqual(kind, "unrest")
            self.assertTrue(is_unrest(one, flow))

    def test_a_flow_is_of_whole_rounds(self):
        one = office_of((Rows([[5], [0], [2]]), "b"), (Bundle(2), "a"))
        kind, flow = paper(one)
        self.assertEqual(kind, "unrest")
        self.assertEqual((flow[0] % 3, flow[1] % 2), (0, 0))
        self.assertTrue(is_unrest(one, flow))

    def test_a_flow_is_as_small_as_its_rounds_allow(self):
        self.assertEqual(paper(ring("copy 4", "bundle 4")), ("unrest", [1, 4]))
        self.assertEqual(paper(ring("copy 9", "bundle 3", "bundle 3")), ("unrest", [1, 9, 3]))
        self.assertEqual(paper(ring("bundle 4", "bundle 2", "copy 8")), ("unrest", [8, 2, 1]))
        for made in offices():
            one = Office(*made)
            kind, flow = paper(one)
            if kind == "unrest":
                self.assertEqual(gcd(*[count // one.clerk(k).period() for k, count in enumerate(flow)]), 1)

    def test_kinds(self):
        for made in offices():
            told = paper(Office(*made))
            self.assertEqual((type(told), len(told), type(told[1])), (tuple, 2, list))
            self.assertEqual(len(told[1]), len(made[0]))
            for each in told[1]:
                if told[0] == "rest":
                    self.assertEqual((type(each), len(each)), (tuple, 2))
                    self.assertEqual(each, plain(Fraction(*each)))
                else:
                    self.assertIs(type(each), int)

    def test_by_the_words_of_the_document(self):
        kinds = []
        for made in offices():
            kind, told = paper(Office(*made))
            kinds.append(kind)
            if kind == "rest":
                self.assertTrue(rests(made[0], told))
                numbers = [Fraction(*price) for price in told]
                for c, number in enumerate(numbers):
                    self.assertEqual(number, 1 + sum(part * price for part, price in zip(sends(made[0], c), numbers)))
            else:
                self.assertEqual(kind, "unrest")
                self.assertTrue(goes_round(made[0], told))
        self.assertGreater(min(kinds.count("rest"), kinds.count("unrest")), 50)

    def test_as_the_table_of_shares_tells(self):
        for made in offices():
            one = Office(*made)
            table = left_out(shares_of(one))
            told = paper(one)
            self.assertEqual(told[0], table[0])
            if told[0] == "rest":
                self.assertEqual(told, table)

    def test_sixty_clerks_with_great_numbers(self):
        kinds = []
        for most in (10, 14, 16, 17, 18, 22, 50, 100):
            made = wide(most, 60, most)
            one = Office(*made)
            kind, told = paper(one)
            kinds.append(kind)
            self.assertTrue(rests(made[0], told) if kind == "rest" else goes_round(made[0], told))
            self.assertTrue(is_rest(one, told) if kind == "rest" else is_unrest(one, told))
        self.assertGreater(min(kinds.count("rest"), kinds.count("unrest")), 1)

    def test_what_was_told_is_the_askers_own(self):
        for one in (office_of((Deal(3), "a b x"), (Bundle(2), "a")), office_of((Copy([1]), "b"), (Copy([2]), "a"))):
            before = all_told(one)
            wanted = paper(one)
            told = paper(one)
            changed(told[1])
            self.assertEqual(paper(one), wanted)
            self.assertEqual(all_told(one), before)


class OfGivenLists(unittest.TestCase):
    def test_prices(self):
        one = office_of((Deal(2), "b x"), (Copy([3]), "c"), (Bundle(4), "c"))
        for prices, wanted in (
            ([(3, 1), (5, 1), (1, 1)], True), ([(1, 1), (1, 1), (1, 4)], True), ([(5, 2), (5, 1), (1, 1)], False),
            ([(5, 1), (5, 1), (1, 1)], True), ([(3, 1), (3, 1), (1, 1)], False), ([(3, 1), (4, 1), (1, 1)], True),
            ([(0, 1), (0, 1), (0, 1)], False), ([(-1, 1), (-3, 1), (-2, 1)], False), ([(3, 1), (5, 1), (0, 1)], False),
            ([(3, 1), (5, 1), (-1, 1)], False), ([(0, 1), (5, 1), (1, 1)], False),
        ):
            self.assertIs(is_rest(one, prices), wanted, prices)

    def test_a_price_too_small_by_a_little(self):
        one = office_of((Deal(2), "b x"), (Copy([3]), "c"), (Bundle(4), "x"))
        little = Fraction(1, 10 ** 50)
        third = Fraction(1, 3)
        for less, wanted in ((little, True), (0, False), (-little, False)):
            self.assertIs(is_rest(one, [plain(1 + less), (2, 1), plain(third)]), wanted)
            self.assertIs(is_rest(one, [(9, 1), plain(3 * third + less), plain(third)]), wanted)
        self.assertIs(is_rest(one, [(9, 1), (9, 1), plain(little)]), True)
        self.assertIs(is_rest(one, [(9, 1), (9, 1), plain(-little)]), False)
        self.assertIs(is_rest(one, [(9, 1), (9, 1), (0, 1)]), False)

    def test_a_clerk_that_sends_nothing_still_needs_a_price(self):
        one = office_of((Copy([]), ""))
        self.assertIs(is_rest(one, [(0, 1)]), False)
        self.assertIs(is_rest(one, [(-1, 2)]), False)
        self.assertIs(is_rest(one, [(1, 10 ** 59)]), True)

    def test_prices_below_nought_are_none_though_each_is_more_than_its_sum(self):
        self.assertIs(is_rest(office_of((Copy([2]), "a")), [(-1, 1)]), False)
        self.assertIs(is_rest(office_of((Copy([1]), "b"), (Copy([2]), "b")), [(0, 1), (-1, 1)]), False)
        self.assertIs(is_rest(office_of((Copy([1]), "b"), (Copy([2]), "b")), [(1, 1), (-1, 1)]), False)

    def test_one_for_each_clerk(self):
        one = office_of((Copy([]), ""), (Copy([1]), "b"))
        self.assertEqual([is_unrest(one, flow) for flow in ([0, 1], [1], [0, 1, 0], [])], [True, False, False, False])
        one = office_of((Copy([]), ""), (Copy([]), ""))
        few, many = [(1, 1)], [(1, 1)] * 3
        self.assertEqual([is_rest(one, prices) for prices in ([(1, 1)] * 2, few, many, [])], [True, False, False, False])

    def test_an_office_that_keeps_all_has_no_prices(self):
        one = office_of((Copy([1]), "b"), (Copy([1]), "a"))
        for prices in ([(1, 1), (1, 1)], [(2, 1), (1, 1)], [(1, 1), (2, 1)], [(10 ** 30, 1), (10 ** 30 + 1, 1)]):
            self.assertIs(is_rest(one, prices), False)

    def test_flows(self):
        one = office_of((Copy([4, 1]), "b x"), (Bundle(4), "a"), (Deal(2), "x y"))
        for flow, wanted in (
            ([1, 4, 0], True), ([7, 28, 0], True), ([0, 0, 0], False), ([1, 4, 2], False), ([2, 4, 0], False),
            ([1, 0, 0], False), ([0, 4, 0], False), ([1, 3, 0], False), ([2, 6, 0], False), ([1, 5, 0], False),
            ([-1, -4, 0], False), ([1, 4, -2], False), ([1, 8, 0], False), ([10 ** 59, 4 * 10 ** 59, 0], True),
            ([10 ** 59, 4 * 10 ** 59 + 4, 0], False), ([10 ** 59 + 1, 4 * 10 ** 59, 0], False),
        ):
            self.assertIs(is_unrest(one, flow), wanted, flow)

    def test_no_multiple_of_a_period(self):
        one = office_of((Rows([[2], [1], [0]]), "a"))
        for count in range(-6, 13):
            self.assertIs(is_unrest(one, [count]), count > 0 and count % 3 == 0)

    def test_more_may_come_than_goes(self):
        one = office_of((Copy([9, 9]), "b a"), (Copy([]), ""))
        self.assertIs(is_unrest(one, [1, 0]), True)
        self.assertIs(is_unrest(one, [1, 9]), True)
        self.assertIs(is_unrest(one, [1, 10]), False)
        self.assertIs(is_unrest(one, [0, 1]), False)

    def test_an_office_that_rests_has_no_flow(self):
        one = office_of((Copy([4]), "b"), (Bundle(5), "a"))
        for flow in ([1, 5], [5, 20], [5, 5], [20, 100], [1, 0], [0, 5], [0, 0]):
            self.assertIs(is_unrest(one, flow), False)

    def test_papers_of_four_hundred_figures(self):
        great = 10 ** 399
        one = office_of((Copy([4, 1]), "b x"), (Bundle(4), "a"))
        self.assertIs(is_unrest(one, [great, 4 * great]), True)
        self.assertIs(is_unrest(one, [great + 1, 4 * great]), False)
        two = office_of((Deal(2), "b x"), (Copy([]), ""))
        self.assertIs(is_rest(two, [(great, 2 * great - 1), (1, 1)]), True)
        self.assertIs(is_rest(two, [(great, 2 * great + 1), (1, 1)]), False)

    def test_lists_near_the_paper(self):
        for made in offices():
            one = Office(*made)
            if one.many() > 8:
                continue
            kind, told = paper(one)
            for k in range(one.many()):
                if kind == "rest":
                    for less in (Fraction(1, 7), 1, Fraction(10 ** 9 + 1, 10 ** 9), 2, -1):
                        prices = told[:k] + [plain(Fraction(*told[k]) - less)] + told[k + 1:]
                        self.assertIs(is_rest(one, prices), rests(made[0], prices))
                else:
                    period = one.clerk(k).period()
                    for more in (1, -1, period, -period, 5 * period, -told[k], -told[k] - period):
                        flow = told[:k] + [told[k] + more] + told[k + 1:]
                        self.assertIs(is_unrest(one, flow), goes_round(made[0], flow))

    def test_just_one_of_the_two(self):
        for made in offices():
            one = Office(*made)
            many = one.many()
            kind, told = paper(one)
            for seed in range(5):
                numbers = numbers_in_turn(2 * many, 1, 30, seed)
                prices = [plain(Fraction(top, bottom)) for top, bottom in zip(numbers[:many], numbers[many:])]
                rounds = numbers_in_turn(many, 0, 3, seed)
                flow = [each * one.clerk(k).period() for k, each in enumerate(rounds)]
                if kind == "rest":
                    self.assertIs(is_unrest(one, flow), False)
                    self.assertIs(is_rest(one, told), True)
                else:
                    self.assertIs(is_rest(one, prices), False)
                    self.assertIs(is_unrest(one, told), True)
                if many <= 8:
                    self.assertIs(is_rest(one, prices), rests(made[0], prices))
                    self.assertIs(is_unrest(one, flow), goes_round(made[0], flow))

    def test_what_is_handed_in_stays(self):
        one = office_of((Deal(2), "b x"), (Bundle(4), "b"))
        before = all_told(one)
        prices, flow = [(2, 1), (2, 1)], [2, 4]
        self.assertEqual((is_rest(one, prices), is_unrest(one, flow)), (True, False))
        self.assertEqual((prices, flow), ([(2, 1), (2, 1)], [2, 4]))
        prices[0] = (1, 2)
        self.assertEqual((is_rest(one, prices), is_rest(one, [(2, 1), (2, 1)])), (False, True))
        self.assertEqual(all_told(one), before)


def in_turn(one, flow, turn):
    """Each clerk as often as the flow tells: one after the other, from the last one on, or one round about."""
    many = range(one.many())
    if turn == 0:
        return [k for k in many for time in range(flow[k])]
    if turn == 1:
        return [k for k in reversed(many) for time in range(flow[k])]
    return [k for time in range(max(flow)) for k in many if time < flow[k]]


def scattered(row, seed):
    numbers = numbers_in_turn(len(row), 0, 10 ** 18, seed)
    return [k for number, place, k in sorted(zip(numbers, range(len(row)), row))]


class GoesRound(unittest.TestCase):
    def unresting(self, most):
        for made in offices():
            one = Office(*made)
            kind, flow = paper(one)
            if kind == "unrest" and sum(flow) <= most:
                yield one, flow

    def test_handled_as_often_as_the_flow_tells(self):
        found = 0
        for one, flow in self.unresting(300):
            found += 1
            begins = [one.begin(), [0] * one.many(), [one.clerk(k).period() - 1 for k in range(one.many())]]
            rows = [in_turn(one, flow, turn) for turn in range(3)] + [scattered(in_turn(one, flow, 0), found)]
            for begin in begins:
                for row in rows:
                    states, desks = begin, list(flow)
                    for k in row:
                        states, desks, out = handled(one, states, desks, k)
                    self.assertEqual(states, begin)
                    self.assertTrue(all(again >= count for again, count in zip(desks, flow)))
        self.assertGreater(found, 50)

    def test_without_stepping(self):
        for made in list(offices()) + [wide(most, 60, most) for most in (18, 22, 50)]:
            one = Office(*made)
            kind, flow = paper(one)
            if kind == "unrest":
                for states in (one.begin(), [0] * one.many()):
                    come = [0] * one.many()
                    for k, count in enumerate(flow):
                        self.assertEqual((states[k] + count) % one.clerk(k).period(), states[k])
                        for lead, sent in zip(one.leads(k), one.clerk(k).sent(states[k], count)):
                            if lead >= 0:
                                come[lead] += sent
                    self.assertTrue(all(again >= count for again, count in zip(come, flow)))

    def test_such_dockets_never_come_to_rest(self):
        for one, flow in self.unresting(300):
            for picks in (None, [3, 1, 4], numbers_in_turn(20, 0, 10 ** 18)):
                told = served(one, one.begin(), flow, picks, 500)
                self.assertEqual(len(told[3]), 500)
                self.assertNotEqual(able(told[1]), [])

    def test_with_prices_all_come_to_rest(self):
        found = 0
        for made in offices():
            one = Office(*made)
            kind, prices = paper(one)
            # A whole round of a clerk makes what lies there less by as many, so few dockets stand for few handlings.
            if kind == "rest" and sum(top / bottom for top, bottom in prices) < 60:
                found += 1
                for picks in (None, [2, 0, 5]):
                    told = served(one, one.begin(), [1] * one.many(), picks, 5000)
                    self.assertEqual(able(told[1]), [])
        self.assertGreater(found, 50)


if __name__ == "__main__":
    unittest.main()

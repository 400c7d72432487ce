"""Shares from clerks to clerks and doors, and tables that rest or do not (points 2, 14 and 15)."""

import unittest
from fractions import Fraction
from math import gcd

from dockethall.clerks import Bundle, Copy, Deal, Rows
from dockethall.leaving import door_shares, left_out, shares_of
from dockethall.offices import Office
from helper import all_told, changed, made_up, numbers_in_turn, office_of, plain

NONE = (0, 1)
ONE = (1, 1)
HALF = (1, 2)


def table_of(text):
    """A table of a text, as in 1/2 0, 1 2/3."""
    return [[plain(word) for word in row.split()] for row in text.split(",")]


def is_fraction(thing):
    return (type(thing) is tuple and len(thing) == 2 and type(thing[0]) is int and type(thing[1]) is int
            and thing[1] >= 1 and gcd(*thing) == 1)


def sums(table, prices):
    return [sum(Fraction(*share) * price for share, price in zip(row, prices)) for row in table]


def comings(table, flow):
    return [sum(Fraction(*row[d]) * count for row, count in zip(table, flow)) for d in range(len(table))]


def made_up_table(seed, many, most, bottom):
    numbers = iter(numbers_in_turn(3 * many * many, 0, 10 ** 9, seed))
    return [[plain(Fraction((next(numbers) % (most + 1)) * (next(numbers) % 2), 1 + next(numbers) % bottom))
             for d in range(many)] for c in range(many)]


class Tables(unittest.TestCase):
    def check(self, wanted, table):
        """Looks at what is told by the words of the document alone; wanted is None where both may come."""
        before = [list(row) for row in table]
        told = left_out(table)
        self.assertEqual(table, before)
        self.assertEqual((type(told), len(told), type(told[1]), len(told[1])), (tuple, 2, list, len(table)))
        self.assertTrue(all(is_fraction(each) for each in told[1]))
        numbers = [Fraction(*each) for each in told[1]]
        if told[0] == "rest":
            self.assertTrue(all(price > 0 for price in numbers))
            self.assertEqual(numbers, [1 + each for each in sums(table, numbers)])
        else:
            self.assertEqual(told[0], "unrest")
            self.assertTrue(all(count >= 0 for count in numbers))
            self.assertTrue(any(count > 0 for count in numbers))
            self.assertTrue(all(come >= count for come, count in zip(comings(table, numbers), numbers)))
        self.assertIn(wanted, (told[0], None))
        return told[0]

    def test_prices_as_written_out(self):
        self.assertEqual(left_out([[NONE]]), ("rest", [ONE]))
        self.assertEqual(left_out([[HALF]]), ("rest", [(2, 1)]))
        self.assertEqual(left_out([[(11, 12)]]), ("rest", [(12, 1)]))
        self.assertEqual(left_out([[(2, 5)]]), ("rest", [(5, 3)]))
        self.assertEqual(left_out(table_of("0 1, 0 0")), ("rest", [(2, 1), ONE]))
        self.assertEqual(left_out(table_of("0 0, 9 0")), ("rest", [ONE, (10, 1)]))
        self.assertEqual(left_out(table_of("0 1/2, 1/2 0")), ("rest", [(2, 1), (2, 1)]))
        self.assertEqual(left_out(table_of("0 4, 1/5 0")), ("rest", [(25, 1), (6, 1)]))
        self.assertEqual(left_out(table_of("1/2 1/3 0, 0 0 1, 0 1/4 0")), ("rest", [(34, 9), (8, 3), (5, 3)]))

    def test_one_row(self):
        for text in ("0", "1/2", "1/648", "647/648", "999999999999/1000000000000"):
            self.check("rest", table_of(text))
        for text in ("1", "2", "13/12", "1000001/1000000", "648"):
            self.check("unrest", table_of(text))

    def test_a_row_whose_sum_is_just_one(self):
        self.check("unrest", table_of("1/2 1/2, 1/2 1/2"))
        self.check("unrest", table_of("0 1, 1 0"))
        self.check("unrest", table_of("1/3 2/3, 1/4 3/4"))
        self.check("rest", table_of("1/2 1/2, 1/2 1/3"))
        self.check("rest", table_of("0 1, 1/2 1/3"))
        self.check("rest", table_of("1/2 1/2 0, 0 1/2 1/2, 0 0 1/2"))
        self.check("unrest", table_of("1/2 1/2 0, 0 1/2 1/2, 0 0 1"))
        self.check("unrest", table_of("0 1/2 1/2, 1/2 0 1/2, 1/2 1/2 0"))
        self.check("rest", table_of("0 1/2 1/2, 1/2 0 1/2, 1/2 1/3 0"))

    def test_just_below_at_and_above(self):
        little = Fraction(1, 10 ** 30)
        for many in (1, 2, 3, 6, 12):
            for less, wanted in ((little, "rest"), (0, "unrest"), (-little, "unrest")):
                table = [[plain(Fraction(1, many))] * many for row in range(many)]
                table[many - 1][0] = plain(Fraction(1, many) - less)
                self.check(wanted, table)
                table = [[plain(Fraction(1, many))] * many for row in range(many)]
                table[0][many - 1] = plain(Fraction(1, many) - less)
                self.check(wanted, table)

    def test_rings(self):
        for many in (2, 3, 5, 11, 60):
            for share, back, wanted in ((1, 1, "unrest"), (1, Fraction(59, 60), "rest"), (2, Fraction(1, 2 ** (many - 1)), "unrest"),
                                        (2, Fraction(1, 2 ** (many - 1) + 1), "rest"), (0, 9, "rest")):
                table = [[NONE] * many for row in range(many)]
                for c in range(many):
                    table[c][(c + 1) % many] = plain(share)
                table[many - 1][0] = plain(back)
                self.check(wanted, table)
                turned = [row[::-1] for row in table[::-1]]
                self.check(wanted, turned)

    def test_only_a_part_never_rests(self):
        self.check("unrest", table_of("0 0 0, 0 1 0, 0 0 0"))
        self.check("unrest", table_of("1 9 9, 0 0 0, 0 0 0"))
        self.check("unrest", table_of("0 9 9, 0 0 0, 0 0 1"))
        self.check("unrest", table_of("0 0 1 0, 0 1/2 0 0, 1 0 0 0, 9 9 9 0"))
        self.check("unrest", table_of("1/2 1/4 1/4 0, 0 0 3 0, 0 1/3 0 0, 0 0 0 1/2"))
        self.check("rest", table_of("1/2 1/4 1/4 0, 0 0 3 0, 0 1/4 0 0, 0 0 0 1/2"))
        self.check("unrest", table_of("1/2 0 0, 0 1/2 3, 9 1/6 0"))
        self.check("rest", table_of("1/2 0 0, 0 1/2 3, 9 1/7 0"))

    def test_a_flow_that_is_no_whole_number_of_rounds(self):
        self.check("unrest", table_of("0 2/7, 7/2 0"))
        self.check("unrest", table_of("1/11 5/13, 13/5 1/17"))
        self.check("rest", table_of("1/11 5/13, 26/15 1/17"))

    def test_a_flow_is_as_small_as_whole_numbers_allow(self):
        self.assertEqual(left_out([[(7, 3)]]), ("unrest", [ONE]))
        self.assertEqual(left_out(table_of("0 2/7, 7/2 0")), ("unrest", [(7, 1), (2, 1)]))
        self.assertEqual(left_out(table_of("0 0 12, 1/4 0 0, 0 1/3 0")), ("unrest", [ONE, (4, 1), (12, 1)]))

    def test_all_small_tables_of_two(self):
        few = [plain(Fraction(top, bottom)) for top, bottom in ((0, 1), (1, 3), (1, 2), (2, 3), (1, 1), (3, 2), (4, 1))]
        kinds = [self.check(None, [[a, b], [c, d]]) for a in few for b in few for c in few for d in few]
        self.assertGreater(min(kinds.count("rest"), kinds.count("unrest")), 200)
        # Two clerks rest just where both keep less than all, and the ring of both as well.
        for a in few:
            for b in few:
                for c in few:
                    for d in few:
                        own, other = 1 - Fraction(*a), 1 - Fraction(*d)
                        rests = own > 0 and other > 0 and own * other > Fraction(*b) * Fraction(*c)
                        self.check("rest" if rests else "unrest", [[a, b], [c, d]])

    def test_many_tables(self):
        kinds = []
        for many, most, bottom, seeds in ((3, 1, 4, 200), (5, 2, 12, 100), (9, 2, 20, 40), (20, 1, 24, 12), (60, 1, 97, 3)):
            for seed in range(seeds):
                kinds.append(self.check(None, made_up_table(seed, many, most, bottom)))
        self.assertGreater(min(kinds.count("rest"), kinds.count("unrest")), 30)

    def test_sixty_full_rows(self):
        for part, wanted in (("1/61", "rest"), ("1/60", "unrest"), ("1/59", "unrest"), ("0", "rest"), ("648", "unrest")):
            self.check(wanted, [[plain(part)] * 60 for row in range(60)])
        table = [[plain(Fraction(1, 61 + (7 * c + 11 * d) % 37)) for d in range(60)] for c in range(60)]
        self.check("rest", table)
        table = [[plain(Fraction(1, 23 + (7 * c + 11 * d) % 37)) for d in range(60)] for c in range(60)]
        self.check("unrest", table)

    def test_fractions_of_sixty_figures(self):
        tops = numbers_in_turn(16, 10 ** 57, 10 ** 58, seed=3)
        bottoms = numbers_in_turn(16, 10 ** 58, 10 ** 60 - 1, seed=4)
        parts = [plain(Fraction(top, bottom)) for top, bottom in zip(tops, bottoms)]
        self.check("rest", [[plain(Fraction(*part) / 8) for part in parts[4 * c:4 * c + 4]] for c in range(4)])
        self.check("unrest", [[plain(Fraction(*part) * 800) for part in parts[4 * c:4 * c + 4]] for c in range(4)])

    def test_rows_of_one_list(self):
        row = [HALF, HALF]
        self.check("unrest", [row, row])

    def test_what_was_told_is_the_askers_own(self):
        for table in (table_of("1/2 1/3, 0 0"), table_of("1 1/3, 0 2")):
            wanted = left_out(table)
            told = left_out(table)
            changed(told[1])
            self.assertEqual(left_out(table), wanted)
            first = left_out(table)
            changed(table)
            left_out(table_of("1/3"))
            self.assertEqual(first, wanted)


class Shares(unittest.TestCase):
    def setUp(self):
        self.one = office_of(
            (Deal(6), "a b b x x y"),
            (Rows([[1, 0, 2, 3], [0, 4, 0, 1], [2, 2, 0, 0], [1, 0, 0, 0]]), "c a c y"),
            (Bundle(12), "c"),
            (Copy([]), ""),
            (Copy([9, 9, 9, 9, 9, 9]), "e e e e e e"),
            (Rows([[], []]), ""),
            (Copy([0, 5, 0]), "a x d"),
        )

    def test_to_clerks(self):
        self.assertEqual(shares_of(self.one), [
            [(1, 6), (1, 3), NONE, NONE, NONE, NONE, NONE],
            [(3, 2), NONE, (3, 2), NONE, NONE, NONE, NONE],
            [NONE, NONE, (1, 12), NONE, NONE, NONE, NONE],
            [NONE] * 7,
            [NONE, NONE, NONE, NONE, (54, 1), NONE, NONE],
            [NONE] * 7,
            [NONE] * 7,
        ])

    def test_to_doors(self):
        self.assertEqual(door_shares(self.one), [
            [(1, 3), (1, 6)], [NONE, ONE], [NONE, NONE], [NONE, NONE], [NONE, NONE], [NONE, NONE], [(5, 1), NONE]])

    def test_every_door(self):
        one = Office([("k", Copy([1, 2, 3, 4, 5, 6]), list("fbdace"), 0)], [("in", "k")], list("abcdef"))
        self.assertEqual(door_shares(one), [[(4, 1), (2, 1), (5, 1), (3, 1), (6, 1), ONE]])
        self.assertEqual(shares_of(one), [[NONE]])

    def test_states_change_nothing(self):
        for state in range(6):
            one = Office([("a", Deal(6), ["a", "b", "b", "x", "x", "y"], state), ("b", Copy([]), [], 0)],
                         [("in", "a")], ["x", "y"])
            self.assertEqual(shares_of(one), [[(1, 6), (1, 3)], [NONE, NONE]])
            self.assertEqual(door_shares(one), [[(1, 3), (1, 6)], [NONE, NONE]])

    def test_many_offices(self):
        for many in (1, 2, 5, 20, 60):
            for seed in range(10):
                seats, entries, doors = made_up(seed, many, 10)
                one = Office(seats, entries, doors)
                names = [seat[0] for seat in seats]
                for told, targets in ((shares_of(one), names), (door_shares(one), doors)):
                    self.assertEqual(len(told), many)
                    for (name, clerk, leads, state), shares in zip(seats, told):
                        rows = [clerk.row(each) for each in range(clerk.period())]
                        wanted = [sum(row[out] for row in rows for out, lead in enumerate(leads) if lead == target)
                                  for target in targets]
                        self.assertEqual(shares, [plain(Fraction(each, clerk.period())) for each in wanted])

    def test_a_clerk_sends_all_of_its_round(self):
        for seed in range(20):
            one = Office(*made_up(seed, 12, 10))
            for k, (shares, doors) in enumerate(zip(shares_of(one), door_shares(one))):
                clerk = one.clerk(k)
                self.assertEqual(sum(Fraction(*each) for each in shares + doors),
                                 Fraction(sum(clerk.whole()), clerk.period()))

    def test_what_was_told_is_the_askers_own(self):
        before = all_told(self.one)
        for ask in (shares_of, door_shares):
            wanted = ask(self.one)
            told = ask(self.one)
            told[3].append("kept apart")
            self.assertEqual(told[5], wanted[5])
            changed(told)
            self.assertEqual(ask(self.one), wanted)
        self.assertEqual(all_told(self.one), before)


if __name__ == "__main__":
    unittest.main()

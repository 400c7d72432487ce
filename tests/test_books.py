"""Books that balance (points 2, 4, 18, 19 and 20)."""

import unittest
from fractions import Fraction
from math import floor

from dockethall.books import book, bound, leans, shares_at
from dockethall.clerks import Bundle, Copy, Deal, Rows
from dockethall.handling import able, handled, served
from dockethall.leaving import door_shares, shares_of
from dockethall.notes import read
from dockethall.offices import Office
from dockethall.papers import is_unrest, paper
from dockethall.tallies import tally
from helper import (PICKS, all_told, changed, made_up, numbers_in_turn, office_of, plain, refused, resting, states_of,
                    unresting)

SEEDS = range(10)
GREAT = 10 ** 10
NOUGHT = (0, 1)


def made_up_worths(many, seed):
    """Fractions above, below and at 0."""
    tops = numbers_in_turn(many, -7, 7, seed)
    bottoms = numbers_in_turn(many, 1, 9, seed + 1)
    return [plain(Fraction(top, bottom)) for top, bottom in zip(tops, bottoms)]


def row_worth(one, k, state, worths, door_worths):
    """By the words of the document."""
    told = Fraction(0)
    for lead, count in zip(one.leads(k), one.clerk(k).row(state)):
        told += count * Fraction(*(worths[lead] if lead >= 0 else door_worths[-1 - lead]))
    return told


def mean_of(one, k, worths, door_worths):
    period = one.clerk(k).period()
    return sum(row_worth(one, k, state, worths, door_worths) for state in range(period)) / period


def leans_of(one, k, worths, door_worths):
    """By the words of the document, all the way round."""
    told = [Fraction(0)]
    for state in range(one.clerk(k).period()):
        told.append(told[-1] + mean_of(one, k, worths, door_worths) - row_worth(one, k, state, worths, door_worths))
    return told


def book_of(one, worths, door_worths, states, desks, out):
    told = sum(count * Fraction(*worth) for count, worth in zip(desks + out, worths + door_worths))
    return told + sum(leans_of(one, k, worths, door_worths)[state] for k, state in enumerate(states))


def offices():
    """Some that rest and some that never do: a book is kept of each."""
    for many in (1, 2, 3, 5, 9):
        for seed in SEEDS:
            yield Office(*made_up(seed, many, 3 + seed % 4))


def noughts(one):
    return [NOUGHT for door in one.doors()]


class Leans(unittest.TestCase):
    def test_each_kind_of_clerk(self):
        worths, door_worths = [(1, 1), (-2, 3)], [(5, 1), (1, 2)]
        for clerk, leads, wanted in (
            (Deal(3), "a b x", ["0", "7/9", "29/9"]),
            (Deal(1), "x", ["0"]),
            (Bundle(4), "x", ["0", "5/4", "5/2", "15/4"]),
            (Bundle(3), "b", ["0", "-2/9", "-4/9"]),
            (Bundle(1), "y", ["0"]),
            (Copy([3, 2]), "b x", ["0"]),
            (Copy([]), "", ["0"]),
            (Rows([[1, 0], [0, 2], [3, 0]]), "a x", ["0", "11/3", "-5/3"]),
            (Rows([[], [], []]), "", ["0", "0", "0"]),
            (Rows([[1, 1], [0, 1]]), "b b", ["0", "1/3"]),
        ):
            one = office_of((clerk, leads), (Copy([1]), "x"))
            self.assertEqual(leans(one, 0, worths, door_worths), [plain(each) for each in wanted], clerk.text())

    def test_several_outs_to_one_desk(self):
        one = office_of((Rows([[1, 2, 3], [0, 0, 1]]), "b b x"), (Copy([]), ""))
        self.assertEqual(leans(one, 0, [NOUGHT, (1, 1)], [NOUGHT, NOUGHT]), [NOUGHT, (-3, 2)])
        self.assertEqual(leans(one, 0, [NOUGHT, NOUGHT], [(1, 1), NOUGHT]), [NOUGHT, (-1, 1)])
        self.assertEqual(leans(one, 0, [NOUGHT, (-1, 1)], [(1, 1), (9, 1)]), [NOUGHT, (1, 2)])

    def test_its_own_worth_is_not_asked_for(self):
        one = office_of((Deal(2), "b x"), (Bundle(2), "y"))
        for own in (NOUGHT, (7, 2), (-100, 1)):
            self.assertEqual(leans(one, 0, [own, (1, 1)], [NOUGHT, NOUGHT]), [NOUGHT, (-1, 2)])
        self.assertEqual(leans(one, 1, [(1, 1), (1, 1)], [(9, 1), (3, 1)]), [NOUGHT, (3, 2)])

    def test_by_the_words_of_the_document(self):
        for seed, one in enumerate(offices()):
            worths = made_up_worths(one.many(), seed)
            door_worths = made_up_worths(len(one.doors()), seed + 50)
            for k in range(one.many()):
                wanted = leans_of(one, k, worths, door_worths)
                told = leans(one, k, worths, door_worths)
                self.assertEqual(told, [plain(each) for each in wanted[:-1]])
                self.assertEqual((type(told), wanted[-1], told[0]), (list, 0, NOUGHT))

    def test_without_worths_there_are_none(self):
        for one in offices():
            for k in range(one.many()):
                told = leans(one, k, [NOUGHT] * one.many(), noughts(one))
                self.assertEqual(told, [NOUGHT] * one.clerk(k).period())

    def test_worths_of_many_figures(self):
        tops = numbers_in_turn(8, -10 ** 400, 10 ** 400, 5)
        bottoms = numbers_in_turn(8, 1, 10 ** 400, 6)
        worths = [plain(Fraction(top, bottom)) for top, bottom in zip(tops, bottoms)]
        rows = [numbers_in_turn(6, 0, 9, seed) for seed in range(12)]
        one = office_of((Rows(rows), "a b c d x y"), (Deal(4), "a b c x"), (Bundle(12), "y"), (Copy([9, 9]), "c x"))
        states, desks, out = [11, 3, 7, 0], numbers_in_turn(4, 0, 10 ** 59, 7), numbers_in_turn(2, 0, 10 ** 59, 8)
        for k in range(4):
            wanted = [plain(each) for each in leans_of(one, k, worths[:4], worths[4:6])[:-1]]
            self.assertEqual(leans(one, k, worths[:4], worths[4:6]), wanted)
        self.assertEqual(book(one, worths[:4], worths[4:6], states, desks, out),
                         plain(book_of(one, worths[:4], worths[4:6], states, desks, out)))


class Book(unittest.TestCase):
    def test_as_written_out(self):
        one = office_of((Deal(2), "b x"), (Bundle(3), "y"))
        worths, door_worths = [(1, 2), (-2, 1)], [(3, 1), (1, 3)]
        # The leans are 0 and 5/2, and 0, 1/9 and 2/9.
        for states, desks, out, wanted in (
            ([0, 0], [0, 0], [0, 0], "0"), ([0, 0], [1, 0], [0, 0], "1/2"), ([0, 0], [0, 1], [0, 0], "-2"),
            ([0, 0], [0, 0], [1, 0], "3"), ([0, 0], [0, 0], [0, 1], "1/3"), ([1, 0], [0, 0], [0, 0], "5/2"),
            ([0, 1], [0, 0], [0, 0], "1/9"), ([0, 2], [0, 0], [0, 0], "2/9"), ([1, 2], [4, 1], [2, 6], "193/18"),
            ([1, 1], [0, GREAT], [0, 0], "-359999999953/18"),
        ):
            self.assertEqual(book(one, worths, door_worths, states, desks, out), plain(wanted))

    def test_by_the_words_of_the_document(self):
        for seed, one in enumerate(offices()):
            doors = len(one.doors())
            worths, door_worths = made_up_worths(one.many(), seed), made_up_worths(doors, seed + 50)
            for states in states_of(one):
                desks, out = numbers_in_turn(one.many(), 0, GREAT, seed), numbers_in_turn(doors, 0, 9, seed)
                told = book(one, worths, door_worths, states, desks, out)
                self.assertEqual(told, plain(book_of(one, worths, door_worths, states, desks, out)))
                self.assertEqual((type(told), len(told)), (tuple, 2))

    def test_one_handling_changes_it_by_the_mean_less_the_clerks_worth(self):
        for seed, one in enumerate(offices()):
            doors = len(one.doors())
            worths, door_worths = made_up_worths(one.many(), seed), made_up_worths(doors, seed + 50)
            states, desks, out = one.begin(), [20] * one.many(), numbers_in_turn(doors, 0, 9, seed)
            for k in range(one.many()):
                change = mean_of(one, k, worths, door_worths) - Fraction(*worths[k])
                for turn in range(one.clerk(k).period() + 1):
                    before = book(one, worths, door_worths, states, desks, out)
                    states, desks, gone = handled(one, states, desks, k)
                    out = [sum(each) for each in zip(out, gone)]
                    after = book(one, worths, door_worths, states, desks, out)
                    self.assertEqual(Fraction(*after) - Fraction(*before), change)


class ByPrices(unittest.TestCase):
    def prices(self, one):
        kind, told = paper(one)
        self.assertEqual(kind, "rest")
        return told

    def test_each_handling_makes_it_less_by_one(self):
        ways, steps = 0, 0
        for many in (1, 2, 4, 9):
            for one in resting(many, SEEDS):
                prices = self.prices(one)
                for picks in PICKS[4::4]:
                    states, desks = one.begin(), numbers_in_turn(many, 0, 2, many)
                    now = Fraction(*book(one, prices, noughts(one), states, desks, [0] * len(one.doors())))
                    for k in served(one, states, desks, picks, 200)[3]:
                        states, desks, gone = handled(one, states, desks, k)
                        then = Fraction(*book(one, prices, noughts(one), states, desks, gone))
                        self.assertEqual(then, now - 1)
                        now = then
                        steps += 1
                    ways += not able(desks)
        self.assertGreater(ways, 80)
        self.assertGreater(steps, 600)

    def test_steps_to_rest_are_the_book_less_the_book_at_rest(self):
        for many in (1, 2, 3, 6, 15, 60):
            for one in resting(many, SEEDS):
                prices = self.prices(one)
                for states in states_of(one):
                    desks = numbers_in_turn(many, 0, GREAT, many)
                    counts, then, out = tally(one, states, desks, 2000)
                    first = book(one, prices, noughts(one), states, desks, [0] * len(out))
                    last = book(one, prices, noughts(one), then, [0] * many, out)
                    self.assertEqual(Fraction(*first) - Fraction(*last), sum(counts))


def bound_of(one, states, desks):
    """By the words of the document."""
    prices = paper(one)[1]
    told = book_of(one, prices, noughts(one), states, desks, [0] * len(one.doors()))
    return told - sum(min(leans_of(one, k, prices, noughts(one))) for k in range(one.many()))


class Bound(unittest.TestCase):
    def test_as_written_out(self):
        one = read("door out; clerk front deal 2 at 0 to pack out; clerk pack bundle 3 at 0 to front; entry in front")
        # The prices are 9/5 and 8/5; the leans 0 and -4/5, and 0, 3/5 and 6/5.
        for states, desks, wanted in (
            ([0, 0], [0, 0], 0), ([1, 0], [0, 0], 0), ([0, 1], [0, 0], 1), ([0, 2], [0, 0], 2), ([1, 2], [0, 0], 1),
            ([0, 0], [5, 0], 9), ([0, 2], [5, 0], 11), ([0, 0], [1, 1], 4), ([1, 1], [0, 1], 2), ([1, 0], [5, 0], 9),
            ([1, 0], [4, 0], 7), ([0, 0], [GREAT, 0], 18 * 10 ** 9), ([1, 0], [GREAT - 1, 0], 18 * 10 ** 9 - 2),
        ):
            self.assertEqual(bound(one, states, desks), wanted, (states, desks))

    def test_by_the_words_of_the_document(self):
        broken = 0
        for many in (1, 2, 3, 6, 15):
            for one in resting(many, SEEDS, 4):
                for place, states in enumerate(states_of(one)):
                    desks = numbers_in_turn(many, 0, (0, 1, 30, GREAT)[place], many)
                    wanted = bound_of(one, states, desks)
                    broken += wanted != floor(wanted)
                    told = bound(one, states, desks)
                    self.assertEqual(told, floor(wanted))
                    self.assertIs(type(told), int)
        self.assertGreater(broken, 40)

    def test_not_below_the_handlings_that_are_done(self):
        just = 0
        for many in (1, 2, 3, 6, 15, 60):
            for one in resting(many, SEEDS):
                for states in states_of(one):
                    for most in (0, 1, GREAT):
                        desks = numbers_in_turn(many, 0, most, many)
                        counts = tally(one, states, desks, 2000)[0]
                        self.assertGreaterEqual(bound(one, states, desks), sum(counts))
                        just += bound(one, states, desks) == sum(counts)
        self.assertGreater(just, 50)

    def test_by_picks(self):
        for one in resting(4, SEEDS):
            for picks in PICKS[::4]:
                told = served(one, one.begin(), [2] * 4, picks, 5000)
                if not able(told[1]):
                    self.assertGreaterEqual(bound(one, one.begin(), [2] * 4), len(told[3]))

    def test_endless(self):
        for many in (1, 2, 5, 60):
            for one in unresting(many, SEEDS):
                for desks in ([0] * many, [3] * many):
                    error = refused(self, "Endless", bound, one, one.begin(), desks)
                    self.assertTrue(is_unrest(one, error.flow))
        error = refused(self, "Endless", bound, office_of((Copy([1]), "x"), (Bundle(1), "b")), [0, 0], [1, 0])
        self.assertEqual((type(error.flow), error.flow[0]), (list, 0))


class DoorShares(unittest.TestCase):
    def test_as_written_out(self):
        one = read("door out; clerk front deal 2 at 0 to pack out; clerk pack bundle 3 at 0 to front; entry in front")
        self.assertEqual(shares_at(one, 0), [(3, 5), (1, 5)])
        two = office_of((Deal(3), "x y b"), (Copy([2, 1, 1]), "x x c"), (Bundle(2), "a"))
        # The shares are told by a = 1/3 + b/3, b = 3 + c and c = a/2; of the door y by a = 1/3 + b/3, b = c, c = a/2.
        self.assertEqual(shares_at(two, 0), [(8, 5), (19, 5), (4, 5)])
        self.assertEqual(shares_at(two, 1), [(2, 5), (1, 5), (1, 5)])

    def test_a_door_that_nothing_comes_to(self):
        self.assertEqual(shares_at(office_of((Deal(2), "x b"), (Copy([3]), "x")), 1), [NOUGHT, NOUGHT])
        self.assertEqual(shares_at(office_of((Deal(2), "x b"), (Copy([3, 0]), "x y")), 1), [NOUGHT, NOUGHT])
        self.assertEqual(shares_at(office_of((Copy([]), "")), 0), [NOUGHT])
        self.assertEqual(shares_at(office_of((Copy([1]), "x"), (Copy([1]), "y")), 1), [NOUGHT, (1, 1)])

    def each(self, sizes=(1, 2, 3, 6, 15)):
        for many in sizes:
            for one in resting(many, SEEDS):
                for door in range(len(one.doors())):
                    yield one, door

    def test_each_is_the_share_to_the_door_and_the_sum_over_all_clerks(self):
        for one, door in self.each((1, 2, 3, 6, 15, 60)):
            told = shares_at(one, door)
            self.assertEqual((type(told), len(told)), (list, one.many()))
            numbers = [Fraction(*each) for each in told]
            for k, row in enumerate(shares_of(one)):
                on = sum(Fraction(*part) * number for part, number in zip(row, numbers))
                self.assertEqual(numbers[k], Fraction(*door_shares(one)[k][door]) + on)
            self.assertEqual(told, [plain(each) for each in numbers])

    def worths(self, one, door):
        return shares_at(one, door), [(1, 1) if d == door else NOUGHT for d in range(len(one.doors()))]

    def test_no_handling_changes_the_book(self):
        for one, door in self.each((1, 2, 5)):
            worths, door_worths = self.worths(one, door)
            states, desks, out = one.begin(), [15] * one.many(), [3] * len(one.doors())
            wanted = book(one, worths, door_worths, states, desks, out)
            for k in range(one.many()):
                for turn in range(one.clerk(k).period() + 1):
                    states, desks, gone = handled(one, states, desks, k)
                    out = [sum(each) for each in zip(out, gone)]
                    self.assertEqual(book(one, worths, door_worths, states, desks, out), wanted)

    def test_what_goes_out_on_the_way_to_rest(self):
        for one, door in self.each():
            worths, door_worths = self.worths(one, door)
            for states in states_of(one)[1:]:
                desks = numbers_in_turn(one.many(), 0, GREAT, door)
                counts, then, out = tally(one, states, desks, 2000)
                told = sum(count * Fraction(*worth) for count, worth in zip(desks, worths))
                for k in range(one.many()):
                    leaning = leans(one, k, worths, door_worths)
                    told += Fraction(*leaning[states[k]]) - Fraction(*leaning[then[k]])
                self.assertEqual(told, out[door])

    def test_sixty_clerks(self):
        for one, door in list(self.each((60,)))[:6]:
            worths, door_worths = self.worths(one, door)
            desks = numbers_in_turn(60, 0, GREAT, door)
            counts, then, out = tally(one, one.begin(), desks, 2000)
            nothing = [0] * len(out)
            self.assertEqual(book(one, worths, door_worths, one.begin(), desks, nothing),
                             book(one, worths, door_worths, then, [0] * 60, out))

    def test_endless(self):
        for many in (1, 2, 5, 60):
            for one in unresting(many, SEEDS):
                for door in range(len(one.doors())):
                    error = refused(self, "Endless", shares_at, one, door)
                    self.assertIs(type(error.flow), list)
                    self.assertTrue(is_unrest(one, error.flow))


class Kept(unittest.TestCase):
    def test_what_is_handed_in_stays(self):
        one = office_of((Deal(2), "b x"), (Bundle(3), "a"))
        before = all_told(one)
        worths, door_worths = [(1, 2), (2, 1)], [(3, 1), NOUGHT]
        states, desks, out = [1, 2], [4, 5], [6, 7]

        def asked():
            return (leans(one, 0, worths, door_worths), leans(one, 1, worths, door_worths),
                    book(one, worths, door_worths, states, desks, out), bound(one, states, desks),
                    shares_at(one, 0), shares_at(one, 1))

        wanted = asked()
        for each in asked():
            if isinstance(each, list):
                changed(each)
        self.assertEqual((worths, door_worths), ([(1, 2), (2, 1)], [(3, 1), NOUGHT]))
        self.assertEqual((states, desks, out), ([1, 2], [4, 5], [6, 7]))
        self.assertEqual(asked(), wanted)
        self.assertEqual(all_told(one), before)

    def test_what_was_told_stays(self):
        one = office_of((Deal(2), "b x"), (Bundle(3), "a"))
        worths, door_worths = [(1, 2), (2, 1)], [(3, 1), NOUGHT]
        told = leans(one, 0, worths, door_worths)
        again = list(told)
        changed(worths)
        changed(door_worths)
        leans(one, 0, [NOUGHT, NOUGHT], [NOUGHT, NOUGHT])
        self.assertEqual(told, again)

    def test_a_flow_is_the_askers_own(self):
        one = office_of((Copy([4]), "b"), (Bundle(4), "a"))
        for call in (lambda: bound(one, [0, 0], [1, 1]), lambda: shares_at(one, 0)):
            first = refused(self, "Endless", call)
            wanted = list(first.flow)
            changed(first.flow)
            self.assertEqual(refused(self, "Endless", call).flow, wanted)


if __name__ == "__main__":
    unittest.main()

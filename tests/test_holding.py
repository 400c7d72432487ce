"""Offices held against one another (points 2, 4 and 22)."""

import unittest
from itertools import product

from dockethall.clerks import Bundle, Copy, Deal, Rows
from dockethall.handling import able, served
from dockethall.holding import parting
from dockethall.notes import read
from dockethall.offices import Office
from dockethall.papers import is_unrest
from dockethall.rooms import rooms
from dockethall.tallies import tally
from helper import all_told, changed, counter, long_way, numbers_in_turn, office_of, refused, resting, unresting


def answers(one, row):
    """What goes out behind each docket of a row of entries' names, by single handlings."""
    places = dict(one.entries())
    states, told = one.begin(), []
    for name in row:
        desks = [0] * one.many()
        desks[places[name]] = 1
        states, left, out, log = served(one, states, desks, [2, 0, 1], 400)
        assert not able(left)
        told.append(out)
    return told


def first_parting(one, other, longest):
    """By the words of the document: rows by their length, of one length in the entries' order."""
    names = [name for name, k in one.entries()]
    for length in range(1, longest + 1):
        for row in product(names, repeat=length):
            if answers(one, row)[-1] != answers(other, row)[-1]:
                return list(row)
    return None


def pairs_ahead(one, other):
    """How many pairs of rooms are come to ahead of the parting, found by what rooms tells."""
    mine, yours = rooms(one, 400)[1], rooms(other, 400)[1]
    found = [(0, 0)]
    for p, q in found:
        for here, there in zip(mine[p], yours[q]):
            if here[0] != there[0]:
                return len(found)
            if (here[1], there[1]) not in found:
                found.append((here[1], there[1]))
    return len(found)


def seats_of(one):
    names = one.names()
    targets = names + one.doors()[::-1]
    return [(names[k], one.clerk(k), [targets[lead] for lead in one.leads(k)], one.begin()[k]) for k in range(one.many())]


def entries_of(one):
    return [(name, one.names()[k]) for name, k in one.entries()]


def turned_round(one):
    """The same office with its clerks in the other order, and under other names."""
    names = dict(zip(one.names(), ["zz" + name for name in one.names()]))
    seats = [(names[name], clerk, [names.get(lead, lead) for lead in leads], state)
             for name, clerk, leads, state in reversed(seats_of(one))]
    return Office(seats, [(name, names[clerk]) for name, clerk in entries_of(one)], one.doors())


def doubled(one):
    """The same office, its clerks of few rows with all rows twice over, and from the second time on."""
    seats = []
    for name, clerk, leads, state in seats_of(one):
        rows = [clerk.row(each) for each in range(clerk.period())]
        if len(rows) <= 6:
            seats.append((name, Rows(rows + rows), leads, state + len(rows)))
        else:
            seats.append((name, Rows(rows), leads, state))
    return Office(seats, entries_of(one), one.doors())


def with_first(one, clerk, leads, state=0):
    """The office with another clerk in the first one's stead."""
    seats = seats_of(one)
    return Office([(seats[0][0], clerk, leads, state)] + seats[1:], entries_of(one), one.doors())


def of_two(first, second):
    """Two entries, each to a desk of its own."""
    return Office([("a",) + first, ("b",) + second], [("in", "a"), ("by", "b")], ["x"])


class Alike(unittest.TestCase):
    def check(self, one, other, most=400):
        for first, second in ((one, other), (other, one), (one, one), (other, other)):
            self.assertIs(parting(first, second, most), None)

    def test_other_kinds(self):
        for clerk, leads in ((Deal(3), "x y x"), (Bundle(12), "y"), (Copy([2, 0]), "y x"), (Copy([]), "")):
            rows = Rows([clerk.row(state) for state in range(clerk.period())])
            self.check(office_of((clerk, leads)), office_of((rows, leads)))
        self.check(office_of((Deal(1), "x")), office_of((Bundle(1), "x")))
        self.check(office_of((Deal(1), "x")), office_of((Copy([1]), "x")))

    def test_other_outs(self):
        self.check(office_of((Copy([1, 2]), "x x")), office_of((Copy([3, 0]), "x y")))
        self.check(office_of((Deal(2), "x y")), office_of((Rows([[0, 1], [1, 0]]), "y x")))

    def test_more_clerks(self):
        self.check(office_of((Bundle(6), "x")), office_of((Bundle(2), "b"), (Bundle(3), "x")))
        self.check(office_of((Bundle(2), "b"), (Bundle(3), "x")), office_of((Bundle(3), "b"), (Bundle(2), "x")))
        self.check(office_of((Deal(4), "x y y x")),
                   office_of((Deal(2), "b c"), (Deal(2), "x y"), (Deal(2), "y x")))
        self.check(office_of((Copy([8]), "x")), office_of((Copy([2]), "b"), (Copy([2]), "c"), (Copy([2]), "x")))
        self.check(office_of((Copy([1]), "x")), office_of((Copy([1]), "x"), (Deal(5), "x y x y x")))

    def test_back_to_its_own_desk(self):
        self.check(office_of((Deal(3), "a x y")), office_of((Deal(2), "x y")))
        self.check(office_of((Deal(3), "x y a")), office_of((Deal(2), "x y")))

    def test_rows_twice_over(self):
        self.check(office_of((Rows([[2, 0], [0, 3]]), "x y")), office_of((Rows([[2, 0], [0, 3]] * 6), "x y")))
        for many in (1, 2, 3):
            for one in resting(many, range(20)):
                if len(self.few_rooms(one)) > 0:
                    self.check(one, doubled(one), 2000)

    def few_rooms(self, one):
        told = []
        try:
            told = rooms(one, 40)[0]
        except ValueError:
            pass
        return told

    def test_other_names_and_order(self):
        found = 0
        for many in (1, 2, 3, 5):
            for one in resting(many, range(20)):
                if len(self.few_rooms(one)) > 0:
                    found += 1
                    self.check(one, turned_round(one))
        self.assertGreater(found, 40)

    def test_answers_all_at_once(self):
        for many in (2, 4):
            for one in resting(many, range(20)):
                other = turned_round(one)
                if len(self.few_rooms(one)) > 0:
                    desks, others = [0] * many, [0] * many
                    amounts = numbers_in_turn(len(one.entries()), 0, 1000, many)
                    for (name, k), (same, l), amount in zip(one.entries(), other.entries(), amounts):
                        desks[k] += amount
                        others[l] += amount
                    self.assertEqual(tally(one, one.begin(), desks)[2], tally(other, other.begin(), others)[2])


class Parted(unittest.TestCase):
    def check(self, one, other, wanted):
        for first, second in ((one, other), (other, one)):
            told = parting(first, second)
            self.assertEqual(told, wanted)
            self.assertEqual((type(told), {type(name) for name in told}), (list, {str}))

    def test_at_the_first_docket(self):
        self.check(office_of((Copy([1]), "x")), office_of((Copy([2]), "x")), ["in"])
        self.check(office_of((Copy([1]), "x")), office_of((Copy([1]), "y")), ["in"])
        self.check(office_of((Deal(2), "x y")), office_of((Deal(2), "y x")), ["in"])

    def test_at_a_later_one(self):
        self.check(office_of((Bundle(5), "x")), office_of((Bundle(6), "x")), ["in"] * 5)
        self.check(counter(0, 12), counter(1, 12), ["in"] * 11)
        self.check(office_of((Deal(2), "x y")), office_of((Deal(3), "x y x")), ["in"] * 4)
        self.check(office_of((Rows([[1], [1], [1], [2]]), "x")), office_of((Copy([1]), "x")), ["in"] * 4)

    def test_behind_going_round(self):
        one = office_of((Rows([[1], [2]] * 5), "x"))
        other = office_of((Rows([[1], [2]] * 5 + [[1], [1]]), "x"))
        self.check(one, other, ["in"] * 12)

    def test_only_by_one_of_several_entries(self):
        alike = (Deal(2), ["x", "x"], 0)
        self.check(of_two(alike, (Copy([1]), ["x"], 0)), of_two(alike, (Copy([2]), ["x"], 0)), ["by"])
        self.check(of_two((Copy([1]), ["x"], 0), alike), of_two((Copy([2]), ["x"], 0), alike), ["in"])
        self.check(of_two(alike, (Bundle(3), ["x"], 0)), of_two(alike, (Bundle(4), ["x"], 0)), ["by"] * 3)

    def test_only_by_both(self):
        for size, wanted in ((2, "in by"), (3, "in in by"), (4, "in in in by")):
            seats = [("a", Copy([1]), ["c"], 0), ("b", Copy([1]), ["c"], 0), ("c", Bundle(size), ["x"], 0)]
            together = Office(seats, [("in", "a"), ("by", "b")], ["x"])
            apart = of_two((Bundle(size), ["x"], 0), (Bundle(size), ["x"], 0))
            self.check(together, apart, wanted.split())

    def test_only_told_of_by_another_entry(self):
        rows = [[0], [0], [0], [0], [1]]
        one = of_two((Copy([1]), ["b"], 0), (Rows(rows), ["x"], 0))
        other = of_two((Copy([2]), ["b"], 0), (Rows(rows), ["x"], 0))
        # The row in, in, by parts them too, but comes behind this one.
        self.check(one, other, ["in", "in", "in"])
        self.check(of_two((Copy([1]), ["b"], 0), (Rows(rows), ["x"], 3)),
                   of_two((Copy([]), [], 0), (Rows(rows), ["x"], 3)), ["in", "in"])
        self.check(of_two((Bundle(9), ["b"], 8), (Rows(rows), ["x"], 0)),
                   of_two((Bundle(9), ["b"], 7), (Rows(rows), ["x"], 0)), ["in", "by", "by", "by", "by"])

    def test_of_several_as_short_the_first(self):
        bundles = [(Bundle(4), ["x"], 0), (Bundle(5), ["x"], 0)]
        one, other = of_two(bundles[0], bundles[0]), of_two(bundles[1], bundles[1])
        self.check(one, other, ["in"] * 4)
        seats = [("a", Bundle(3), ["x"], 0), ("b", Bundle(2), ["x"], 0), ("c", Bundle(2), ["x"], 0)]
        later = [("a", Bundle(3), ["x"], 0), ("b", Bundle(4), ["x"], 0), ("c", Bundle(4), ["x"], 0)]
        for entries, wanted in ((["a", "b", "c"], "b"), (["c", "a", "b"], "c"), (["a", "c", "b"], "c")):
            self.check(Office(seats, [(name, name) for name in entries], ["x"]),
                       Office(later, [(name, name) for name in entries], ["x"]), [wanted] * 2)

    def test_in_the_entries_order_not_the_letters(self):
        seats = [("a", Bundle(2), ["x"], 0)]
        later = [("a", Bundle(3), ["x"], 0)]
        for names in (("z", "b"), ("b", "z")):
            entries = [(name, "a") for name in names]
            self.check(Office(seats, entries, ["x"]), Office(later, entries, ["x"]), [names[0]] * 2)

    def test_by_only_one_of_several_doors(self):
        one = Office([("a", Copy([1, 1, 1]), ["x", "y", "z"], 0)], [("in", "a")], ["x", "y", "z"])
        for counts in ([1, 1, 2], [1, 0, 1], [0, 1, 1]):
            self.check(one, with_first(one, Copy(counts), ["x", "y", "z"]), ["in"])

    def test_by_the_words_of_the_document(self):
        found = []
        for many in (1, 2, 3):
            for one in resting(many, range(60)):
                for clerk in (Bundle(2), Deal(2), Rows([[1], [0], [2], [1]])):
                    doors = [one.doors()[0], one.doors()[-1]]
                    other = with_first(one, clerk, doors[:clerk.outs()])
                    try:
                        told = parting(one, other)
                    except ValueError:
                        continue
                    length = 6 if len(one.entries()) < 3 else 4
                    wanted = first_parting(one, other, length if told is None else min(length, len(told)))
                    self.assertEqual(wanted, told if told is None or len(told) <= length else None)
                    found.append(0 if told is None else len(told))
        self.assertTrue(all(found.count(length) > 2 for length in (0, 1, 2, 3)), found)

    def test_with_several_entries_by_the_words_of_the_document(self):
        mixed = 0
        for seed in range(60):
            numbers = numbers_in_turn(30, 0, 10 ** 6, seed)
            one, other = self.three(numbers, "ddd"), self.three(numbers, ("dde", "ded", "edd", "eed")[seed % 4])
            told = parting(one, other)
            self.assertEqual(first_parting(one, other, 4), told if told is None or len(told) <= 4 else None)
            mixed += told is not None and len(told) <= 4 and len(set(told)) > 1
        self.assertGreater(mixed, 20)

    def three(self, numbers, leads):
        """Three entries, whose dockets go to one of two clerks that are the same."""
        rows = Rows([[number % 2, number // 2 % 2] for number in numbers[:2 + numbers[9] % 3]])
        seats = [(name, Bundle(1 + number % 2), [lead], 0) for name, number, lead in zip("abc", numbers[10:], leads)]
        seats += [(name, rows, ["x", "y"], 0) for name in "de"]
        return Office(seats, [("one", "a"), ("two", "b"), ("three", "c")], ["x", "y"])


class NotComparable(unittest.TestCase):
    def office(self, entries="in by", doors="x y", clerk=Copy([1])):
        return Office([("a", clerk, [doors.split()[0]] if clerk.text() == "copy 1" else ["a"], 0)],
                      [(entry, "a") for entry in entries.split()], doors.split())

    def test_entries_and_doors(self):
        one = self.office()
        self.assertIs(parting(one, self.office()), None)
        for entries, doors in (("in", "x y"), ("by in", "x y"), ("in by on", "x y"), ("in on", "x y"), ("on by", "x y"),
                               ("in by", "x"), ("in by", "y x"), ("in by", "x y z"), ("in by", "x z"), ("in by", "z y"),
                               ("x y", "in by")):
            other = self.office(entries, doors)
            refused(self, "Unlike", parting, one, other)
            refused(self, "Unlike", parting, other, one)

    def test_ahead_of_endless(self):
        never = self.office("in", "x y", Copy([2]))
        self.assertEqual(refused(self, "Endless", parting, never, never).flow, [1])
        refused(self, "Unlike", parting, never, self.office())
        refused(self, "Unlike", parting, self.office(), never)
        refused(self, "Unlike", parting, never, self.office("by", "x y", Copy([2])))

    def test_ahead_of_too_many_and_too_long(self):
        far = Office(long_way(1, 57, 7), [("in", "aa")], ["x"])
        refused(self, "TooLong", parting, far, far)
        refused(self, "Unlike", parting, far, Office([("a", Bundle(12), ["x"], 0)], [("by", "a")], ["x"]))
        refused(self, "Unlike", parting, counter(0, 12), office_of((Bundle(12), "x")), 1)

    def test_clerks_names_need_not_be_the_same(self):
        one = read("door x; clerk a copy 1 at 0 to x; entry in a")
        other = read("door x; clerk b copy 0 at 0 to x; clerk a copy 1 at 0 to x; entry in a")
        self.assertIs(parting(one, other), None)


class Never(unittest.TestCase):
    def test_the_ones_flow_first(self):
        rest = office_of((Copy([1]), "x"))
        never = office_of((Copy([1]), "a"))
        later = office_of((Copy([1]), "x"), (Copy([1]), "b"))
        for one, other, flow in ((never, rest, 1), (rest, never, 1), (never, later, 1), (later, never, 2), (later, rest, 2),
                                 (rest, later, 2)):
            for most in (1, 400):
                error = refused(self, "Endless", parting, one, other, most)
                self.assertEqual((type(error.flow), len(error.flow)), (list, flow))
                self.assertTrue(is_unrest(never if flow == 1 else later, error.flow))

    def test_of_offices_alike(self):
        for many in (1, 3, 8):
            for one in unresting(many, range(10)):
                error = refused(self, "Endless", parting, one, turned_round(one))
                self.assertTrue(is_unrest(one, error.flow))

    def test_ahead_of_what_is_met(self):
        never = office_of((Copy([2]), "x"), (Copy([1]), "b"))
        for other in (office_of((Copy([1]), "x")), office_of((Bundle(12), "x"))):
            refused(self, "Endless", parting, other, never, 1)
            refused(self, "Endless", parting, never, other, 1)
        seats = long_way(1, 57, 7)
        far = Office(seats, [("in", "aa")], ["x", "y"])
        refused(self, "Endless", parting, far, never)
        refused(self, "Endless", parting, never, far)


class Many(unittest.TestCase):
    def test_just_enough_and_one_too_few(self):
        for one, other, pairs in (
            (counter(0, 12), counter(0, 12), 12),
            (counter(0, 12), counter(0, 4, 3), 12),
            (office_of((Bundle(5), "x")), office_of((Bundle(6), "x")), 5),
            (office_of((Copy([]), "")), office_of((Deal(3), "b b b"), (Copy([]), "")), 3),
            (office_of((Deal(4), "b b b b"), (Copy([]), "")), office_of((Deal(6), "b b b b b b"), (Copy([]), "")), 12),
            (of_two((Bundle(3), ["x"], 0), (Bundle(2), ["x"], 0)), of_two((Bundle(3), ["x"], 0), (Bundle(2), ["x"], 0)), 6),
        ):
            wanted = parting(one, other)
            self.assertEqual(parting(one, other, pairs), wanted)
            self.assertEqual(pairs_ahead(one, other), pairs)
            for most in range(1, pairs):
                refused(self, "TooMany", parting, one, other, most)

    def test_made_up_offices(self):
        found = 0
        for one in resting(2, range(60)):
            for clerk in (Bundle(2), Rows([[1], [0], [2], [1]])):
                other = with_first(one, clerk, one.doors()[:1])
                try:
                    wanted = parting(one, other)
                    pairs = pairs_ahead(one, other)
                except ValueError:
                    continue
                self.assertEqual(parting(one, other, pairs), wanted)
                if pairs > 1:
                    found += 1
                    refused(self, "TooMany", parting, one, other, pairs - 1)
        self.assertGreater(found, 20)

    def test_parted_at_the_beginning_there_is_one_pair(self):
        self.assertEqual(parting(office_of((Copy([1]), "x")), office_of((Bundle(12), "x")), 1), ["in"])
        self.assertIs(parting(office_of((Copy([1]), "x")), office_of((Copy([1]), "x")), 1), None)

    def test_left_out_it_is_400(self):
        never = Office([("a", Copy([0]), ["x"], 0)], [("in", "a")], ["x"])
        self.assertEqual(parting(counter(100, 10, 10, 5), never), ["in"] * 400)
        refused(self, "TooMany", parting, counter(100, 10, 10, 5), never, 399)
        refused(self, "TooMany", parting, counter(99, 10, 10, 5), never)
        refused(self, "TooMany", parting, never, counter(99, 10, 10, 5), 400)
        self.assertEqual(parting(never, counter(99, 10, 10, 5), 401), ["in"] * 401)
        self.assertIs(parting(counter(0, 10, 10, 4), counter(0, 4, 10, 10)), None)
        refused(self, "TooMany", parting, counter(0, 10, 10, 4), counter(0, 4, 10, 10), 399)

    def test_2000(self):
        one, other = counter(3, 10, 10, 10, 2), counter(3, 10, 10, 2, 10)
        self.assertIs(parting(one, other, most=2000), None)
        refused(self, "TooMany", parting, one, other, 1999)


class Long(unittest.TestCase):
    def far(self, entries, state=0, ahead=0):
        """A long way that is too long but from the last states of its gate, and a bundle of twelve."""
        seats = long_way(ahead, 44, 12, 1, state) + [("near", Bundle(12), ["x"], 0)]
        places = {"far": "aa", "near": "near"}
        return Office(seats, [(entry, places[entry]) for entry in entries.split()], ["x"])

    def near(self, entries, first=Copy([1])):
        """A short way in the long one's stead."""
        places = {"far": "a", "near": "near"}
        seats = [("a", first, ["x"], 0), ("near", Bundle(12), ["x"], 0)]
        return Office(seats, [(entry, places[entry]) for entry in entries.split()], ["x"])

    def test_400_lists(self):
        enough = Office(long_way(0, 57, 7), [("in", "aa")], ["x"])
        too_long = Office(long_way(1, 57, 7), [("in", "aa")], ["x"])
        short = Office([("a", Copy([1]), ["x"], 0)], [("in", "a")], ["x"])
        self.assertIs(parting(enough, short), None)
        for one, other in ((too_long, short), (short, too_long), (too_long, enough), (too_long, too_long)):
            for most in (1, 400, 2000):
                refused(self, "TooLong", parting, one, other, most)

    def test_of_either(self):
        for entries in ("far near", "near far"):
            one, other = self.far(entries), self.near(entries)
            for first, second in ((one, other), (other, one), (one, one)):
                refused(self, "TooLong", parting, first, second, 2)
                refused(self, "TooLong", parting, first, second)

    def test_whichever_is_met_first(self):
        for first, second in ((self.far("near far"), self.near("near far")), (self.near("near far"), self.far("near far"))):
            refused(self, "TooMany", parting, first, second, 1)
            refused(self, "TooLong", parting, first, second, 2)
        for first, second in ((self.far("far near"), self.near("far near")), (self.near("far near"), self.far("far near"))):
            refused(self, "TooLong", parting, first, second, 1)

    def test_a_later_docket(self):
        one, other = self.far("far", 11), self.near("far")
        for first, second in ((one, other), (other, one)):
            refused(self, "TooMany", parting, first, second, 1)
            refused(self, "TooLong", parting, first, second, 2)

    def test_a_parting_ahead_of_it(self):
        # The answers to the docket by near part ahead of the long way, or behind it.
        one = self.far("near far")
        other = Office([("a", Copy([1]), ["x"], 0)], [("near", "a"), ("far", "a")], ["x"])
        self.assertEqual(parting(one, other), ["near"])
        self.assertEqual(parting(other, one, 1), ["near"])
        refused(self, "TooLong", parting, self.far("far near"), Office(
            [("a", Copy([2]), ["x"], 0)], [("far", "a"), ("near", "a")], ["x"]))


class Kept(unittest.TestCase):
    def test_what_was_told_is_the_askers_own(self):
        one, other = office_of((Bundle(5), "x")), office_of((Bundle(6), "x"))
        before = (all_told(one), all_told(other))
        wanted = parting(one, other)
        told = parting(one, other)
        changed(told)
        self.assertEqual(parting(one, other), wanted)
        refused(self, "TooMany", parting, one, other, 4)
        self.assertEqual(parting(one, other), wanted)
        self.assertEqual((all_told(one), all_told(other)), before)

    def test_a_flow_is_the_askers_own(self):
        one = office_of((Copy([4]), "b"), (Bundle(4), "a"))
        first = refused(self, "Endless", parting, one, one)
        wanted = list(first.flow)
        changed(first.flow)
        self.assertEqual(refused(self, "Endless", parting, one, one).flow, wanted)


if __name__ == "__main__":
    unittest.main()

"""Rooms and moves (points 2 and 21)."""

import unittest

from dockethall.clerks import Bundle, Copy, Deal, Rows
from dockethall.handling import able, served
from dockethall.offices import Office
from dockethall.papers import is_unrest
from dockethall.rooms import rooms
from helper import all_told, changed, counter, long_way, office_of, refused, resting, unresting


def by_served(one, most):
    """By the words of the document, with single handlings; None where there are more rooms or handlings than told."""
    found, moves = [tuple(one.begin())], []
    while len(moves) < len(found):
        row = []
        for name, k in one.entries():
            desks = [0] * one.many()
            desks[k] = 1
            states, left, out, log = served(one, list(found[len(moves)]), desks, [1, 0, 2], 400)
            if able(left):
                return None
            if tuple(states) not in found:
                found.append(tuple(states))
            if len(found) > most:
                return None
            row.append((out, found.index(tuple(states))))
        moves.append(row)
    return (found, moves)


def twice(first, second, doors="x"):
    """An office with two entries, the clerks a and b."""
    return Office([("a",) + first, ("b",) + second], [("in", "a"), ("by", "b")], doors.split())


def with_far(entries, state=0, gate=12):
    """A bundle of twelve at desk near, and a long way, too long but from the last states of its gate."""
    seats = long_way(0, 44, gate, 1, state) + [("near", Bundle(12), ["x"], 0)]
    places = {"far": "aa", "near": "near"}
    return Office(seats, [(entry, places[entry]) for entry in entries.split()], ["x"])


class AsWrittenOut(unittest.TestCase):
    def test_one_clerk_of_each_kind(self):
        self.assertEqual(rooms(office_of((Deal(2), "x y"))),
                         ([(0,), (1,)], [[([1, 0], 1)], [([0, 1], 0)]]))
        self.assertEqual(rooms(office_of((Bundle(3), "y"))),
                         ([(0,), (1,), (2,)], [[([0, 0], 1)], [([0, 0], 2)], [([0, 1], 0)]]))
        self.assertEqual(rooms(office_of((Copy([2, 3]), "x y"))), ([(0,)], [[([2, 3], 0)]]))
        self.assertEqual(rooms(office_of((Rows([[2, 0], [0, 1], [0, 0]]), "a y"))), ([(0,)], [[([0, 1], 0)]]))

    def test_the_beginning_is_the_first_room(self):
        one = Office([("a", Deal(3), ["x", "x", "y"], 2)], [("in", "a")], ["x", "y"])
        self.assertEqual(rooms(one), ([(2,), (0,), (1,)], [[([0, 1], 1)], [([1, 0], 2)], [([1, 0], 0)]]))

    def test_a_room_that_nothing_leads_back_to(self):
        one = Office([("a", Deal(2), ["a", "x"], 1)], [("in", "a")], ["x"])
        self.assertEqual(rooms(one), ([(1,), (0,)], [[([1], 1)], [([1], 1)]]))

    def test_the_beginning_alone(self):
        for rows in ([(Copy([1]), "x")], [(Copy([]), "")], [(Copy([2]), "b"), (Deal(2), "x y")]):
            one = office_of(*rows)
            told = rooms(one)
            self.assertEqual((told[0], len(told[1])), ([(0,) * len(rows)], 1))
            self.assertEqual(rooms(one, 1), told)

    def test_two_entries(self):
        one = twice((Deal(2), ["b", "x"], 0), (Bundle(2), ["x"], 0))
        self.assertEqual(rooms(one), (
            [(0, 0), (1, 1), (0, 1), (1, 0)],
            [[([0], 1), ([0], 2)], [([1], 2), ([1], 3)], [([1], 3), ([1], 0)], [([1], 0), ([0], 1)]],
        ))

    def test_entries_in_their_order(self):
        seats = [("a", Bundle(2), ["x"], 0), ("b", Bundle(3), ["x"], 0)]
        one = Office(seats, [("in", "a"), ("by", "b")], ["x"])
        other = Office(seats, [("in", "b"), ("by", "a")], ["x"])
        self.assertEqual(rooms(one)[0], [(0, 0), (1, 0), (0, 1), (1, 1), (0, 2), (1, 2)])
        self.assertEqual(rooms(other)[0], [(0, 0), (0, 1), (1, 0), (0, 2), (1, 1), (1, 2)])

    def test_two_entries_to_one_desk(self):
        one = Office([("a", Deal(2), ["x", "y"], 0)], [("in", "a"), ("by", "a")], ["x", "y"])
        self.assertEqual(rooms(one), ([(0,), (1,)], [[([1, 0], 1)] * 2, [([0, 1], 0)] * 2]))

    def test_a_desk_that_no_docket_comes_to(self):
        one = Office([("a", Copy([1]), ["x"], 0), ("b", Deal(3), ["x", "x", "x"], 1)], [("in", "a")], ["x"])
        self.assertEqual(rooms(one), ([(0, 1)], [[([1], 0)]]))

    def test_kinds(self):
        told = rooms(twice((Deal(2), ["b", "x"], 0), (Bundle(2), ["x"], 0)))
        self.assertEqual([type(told)] + [type(each) for each in told], [tuple, list, list])
        self.assertEqual({type(room) for room in told[0]}, {tuple})
        self.assertEqual({type(row) for row in told[1]}, {list})
        moves = [move for row in told[1] for move in row]
        self.assertEqual({(type(move), type(move[0]), type(move[1])) for move in moves}, {(tuple, list, int)})


class ByServed(unittest.TestCase):
    def test_made_up_offices(self):
        found = []
        for many in (1, 2, 3, 4, 6):
            for one in resting(many, range(40)):
                wanted = by_served(one, 60)
                if wanted:
                    found.append((len(wanted[0]), len(one.entries())))
                    self.assertEqual(rooms(one), wanted)
                    self.assertEqual(rooms(one, len(wanted[0])), wanted)
                    if len(wanted[0]) > 1:
                        refused(self, "TooMany", rooms, one, len(wanted[0]) - 1)
        self.assertGreater(len([1 for many, entries in found if many > 6 and entries > 1]), 20)

    def test_six_entries(self):
        seats = [(name, Bundle(2), ["x"], 0) for name in "abcdef"]
        one = Office(seats, [(name, name) for name in "fedcba"], ["x"])
        told = rooms(one)
        self.assertEqual(told, by_served(one, 64))
        self.assertEqual((len(told[0]), told[0][1], told[0][6]), (64, (0, 0, 0, 0, 0, 1), (1, 0, 0, 0, 0, 0)))


class Many(unittest.TestCase):
    def test_just_enough_and_one_too_few(self):
        for sizes in ((2,), (12,), (3, 4), (2, 2, 2)):
            one = counter(0, *sizes)
            many = len(rooms(one)[0])
            self.assertEqual(rooms(one, many), rooms(one))
            for most in range(1, many):
                refused(self, "TooMany", rooms, one, most)

    def test_left_out_it_is_200(self):
        self.assertEqual(len(rooms(counter(0, 10, 10, 2))[0]), 200)
        refused(self, "TooMany", rooms, counter(0, 10, 10, 2), 199)
        # The first room of the next one, to which nothing leads back, makes it one more.
        seats = [("g", Deal(2), ["g", "a"], 1), ("a", Bundle(10), ["b"], 0), ("b", Bundle(10), ["c"], 0)]
        one = Office(seats + [("c", Bundle(2), ["x"], 0)], [("in", "g")], ["x"])
        refused(self, "TooMany", rooms, one)
        refused(self, "TooMany", rooms, one, 200)
        self.assertEqual(len(rooms(one, 201)[0]), 201)

    def test_400(self):
        self.assertEqual(len(rooms(counter(7, 10, 10, 4), most=400)[0]), 400)
        refused(self, "TooMany", rooms, counter(0, 10, 10, 5), 400)

    def test_a_room_that_was_come_to_is_not_counted_again(self):
        one = twice((Bundle(2), ["x"], 0), (Bundle(2), ["x"], 0))
        self.assertEqual(len(rooms(one, 4)[0]), 4)


class Never(unittest.TestCase):
    def check(self, one, *most):
        error = refused(self, "Endless", rooms, one, *most)
        self.assertIs(type(error.flow), list)
        self.assertTrue(is_unrest(one, error.flow))

    def test_endless(self):
        for many in (1, 2, 5, 60):
            for one in unresting(many, range(10)):
                self.check(one)
                self.check(one, 1)

    def test_though_no_docket_comes_there(self):
        self.check(office_of((Copy([1]), "x"), (Copy([1]), "b")))

    def test_ahead_of_too_many(self):
        one = office_of((Bundle(12), "x"), (Copy([1]), "b"))
        for most in (1, 2, 400):
            self.check(one, most)

    def test_ahead_of_too_long(self):
        seats = long_way(0, 44, 12) + [("never", Copy([1]), ["never"], 0)]
        self.check(Office(seats, [("in", "aa")], ["x"]))


class Long(unittest.TestCase):
    def test_400_lists(self):
        enough = Office(long_way(0, 57, 7), [("in", "aa")], ["x"])
        begin = tuple(enough.begin())
        self.assertEqual(rooms(enough), ([begin], [[([1], 0)]]))
        for most in (1, 200, 400):
            too_long = Office(long_way(1, 57, 7), [("in", "aa")], ["x"])
            refused(self, "TooLong", rooms, too_long, most)

    def test_a_docket_ahead_of_its_room(self):
        one = Office(long_way(0, 44, 12) + [("z", Copy([]), [], 0)], [("in", "aa")], ["x"])
        for most in (1, 2, 400):
            refused(self, "TooLong", rooms, one, most)

    def test_whichever_is_met_first(self):
        one = with_far("near far")
        refused(self, "TooMany", rooms, one, 1)
        for most in (2, 3, 12, 400):
            refused(self, "TooLong", rooms, one, most)
        for most in (1, 2, 3, 12, 400):
            refused(self, "TooLong", rooms, with_far("far near"), most)

    def test_met_first_at_a_later_docket(self):
        # From the last state of its gate the first docket comes by; behind it the gate is at its first state.
        one = with_far("far", 11)
        refused(self, "TooMany", rooms, one, 1)
        refused(self, "TooLong", rooms, one, 2)
        refused(self, "TooLong", rooms, one)
        both = with_far("far near", 11)
        refused(self, "TooMany", rooms, both, 1)
        # The docket by near ahead of the first one that is too long makes three.
        refused(self, "TooMany", rooms, both, 2)
        refused(self, "TooLong", rooms, both, 3)
        near = with_far("near far", 11)
        # Its rooms are the beginning, near's, far's; then from near's room near's next, and far from there.
        refused(self, "TooMany", rooms, near, 4)
        refused(self, "TooMany", rooms, near, 2)
        refused(self, "TooLong", rooms, near, 5)


class Kept(unittest.TestCase):
    def test_what_was_told_is_the_askers_own(self):
        one = twice((Deal(2), ["b", "x"], 0), (Bundle(2), ["x"], 0))
        before = all_told(one)
        wanted = rooms(one)
        told = rooms(one)
        for row in told[1]:
            for answer, number in row:
                answer[0] = 77
        changed(told[0])
        changed(told[1])
        self.assertEqual(rooms(one), wanted)
        self.assertEqual(all_told(one), before)
        refused(self, "TooMany", rooms, one, 3)
        self.assertEqual(rooms(one), wanted)

    def test_no_two_answers_are_one_list(self):
        told = rooms(twice((Copy([1]), ["x"], 0), (Copy([1]), ["x"], 0)))
        told[1][0][0][0][0] = 77
        self.assertEqual(told[1][0][1], ([1], 0))
        told = rooms(office_of((Bundle(3), "x")))
        told[1][0][0][0][0] = 77
        self.assertEqual(told[1][1:], [[([0, 0], 2)], [([1, 0], 0)]])

    def test_a_flow_is_the_askers_own(self):
        one = office_of((Copy([4]), "b"), (Bundle(4), "a"))
        first = refused(self, "Endless", rooms, one)
        wanted = list(first.flow)
        changed(first.flow)
        self.assertEqual(refused(self, "Endless", rooms, one).flow, wanted)


if __name__ == "__main__":
    unittest.main()

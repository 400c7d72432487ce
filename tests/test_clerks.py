"""The four kinds of clerks, their rounds and what they send (points 2, 6 and 7)."""

import unittest

from dockethall.clerks import Bundle, Clerk, Copy, Deal, Rows
from helper import HUGE, listed_things, numbers_in_turn, odd_things, refused, texts

TABLE = [[1, 0, 2], [0, 9, 0], [3, 1, 4], [0, 0, 0]]


def samples():
    """A clerk for each edge of each kind, with the rows it is to have, written out on their own."""
    return [
        (Deal(1), [[1]]),
        (Deal(3), [[1, 0, 0], [0, 1, 0], [0, 0, 1]]),
        (Deal(6), [[int(out == state) for out in range(6)] for state in range(6)]),
        (Bundle(1), [[1]]),
        (Bundle(4), [[0], [0], [0], [1]]),
        (Bundle(12), [[0]] * 11 + [[1]]),
        (Copy([]), [[]]),
        (Copy([0]), [[0]]),
        (Copy([1, 0, 2]), [[1, 0, 2]]),
        (Copy([9, 8, 7, 6, 5, 0]), [[9, 8, 7, 6, 5, 0]]),
        (Rows([[]]), [[]]),
        (Rows([[], []]), [[], []]),
        (Rows([[]] * 12), [[]] * 12),
        (Rows([[5]]), [[5]]),
        (Rows(TABLE), TABLE),
        (Rows([[k % 10] * 6 for k in range(12)]), [[k % 10] * 6 for k in range(12)]),
    ]


def stepped(rows, state, count):
    """One handling after the other, as point 6 tells it."""
    sent = [0] * len(rows[0])
    for step in range(count):
        sent = [all_told + now for all_told, now in zip(sent, rows[state])]
        state = state + 1 if state + 1 < len(rows) else 0
    return sent


class Kinds(unittest.TestCase):
    def test_each_kind_stands_straight_under_clerk(self):
        for kind in (Deal, Bundle, Copy, Rows):
            self.assertEqual(kind.__bases__, (Clerk,))

    def test_a_plain_clerk_is_made_of_nothing(self):
        self.assertIsInstance(Clerk(), Clerk)

    def test_periods_outs_and_rows(self):
        for clerk, rows in samples():
            with self.subTest(rows=rows):
                self.assertEqual(clerk.period(), len(rows))
                self.assertEqual(clerk.outs(), len(rows[0]))
                self.assertEqual([clerk.row(state) for state in range(len(rows))], rows)
                self.assertIs(type(clerk.row(0)), list)

    def test_words(self):
        wanted = ["deal"] * 3 + ["bundle"] * 3 + ["copy"] * 4 + ["rows"] * 6
        self.assertEqual([clerk.word() for clerk, rows in samples()], wanted)

    def test_texts(self):
        self.assertEqual([clerk.text() for clerk, rows in samples()], [
            "deal 1", "deal 3", "deal 6", "bundle 1", "bundle 4", "bundle 12",
            "copy -", "copy 0", "copy 1,0,2", "copy 9,8,7,6,5,0",
            "rows -", "rows -/-", "rows -/-/-/-/-/-/-/-/-/-/-/-", "rows 5", "rows 1,0,2/0,9,0/3,1,4/0,0,0",
            "rows " + "/".join([",".join([str(k % 10)] * 6) for k in range(12)]),
        ])
        self.assertEqual(Rows([[1, 0], [0, 2]]).text(), "rows 1,0/0,2")

    def test_every_number_within_the_bounds(self):
        self.assertEqual([Deal(many).outs() for many in range(1, 7)], list(range(1, 7)))
        self.assertEqual([Bundle(size).period() for size in range(1, 13)], list(range(1, 13)))
        for number in range(10):
            self.assertEqual(Copy([number]).row(0), [number])
            self.assertEqual(Rows([[0], [number]]).row(1), [number])


class Refused(unittest.TestCase):
    def test_deal(self):
        for many in [0, 7, -1, -6, 8, 12, HUGE, -HUGE] + odd_things() + listed_things() + texts():
            refused(self, "NoClerk", Deal, many)

    def test_bundle(self):
        for size in [0, 13, -1, -12, 14, HUGE, -HUGE] + odd_things() + listed_things() + texts():
            refused(self, "NoClerk", Bundle, size)

    def test_copy(self):
        for counts in [0, 1, HUGE, (), (1, 2), [1] * 7, [0] * 7, [1] * 10000] + odd_things() + texts():
            refused(self, "NoClerk", Copy, counts)

    def test_a_wrong_count_within_a_copy(self):
        for count in [-1, 10, HUGE, -HUGE] + odd_things() + listed_things() + texts():
            refused(self, "NoClerk", Copy, [count])
            refused(self, "NoClerk", Copy, [1, 2, count])
            refused(self, "NoClerk", Copy, [count, 1, 2, 3, 4, 5])

    def test_rows(self):
        for rows in [0, 1, HUGE, [], (), ([1],), ([],), [[1]] * 13, [[]] * 13, [[]] * 10000] + odd_things() + texts():
            refused(self, "NoClerk", Rows, rows)

    def test_a_wrong_row_within_rows(self):
        for row in [0, 1, HUGE, (), (1,), [1] * 7] + odd_things() + texts():
            refused(self, "NoClerk", Rows, [row])
            refused(self, "NoClerk", Rows, [[1], row])
            refused(self, "NoClerk", Rows, [row, [1]])
            refused(self, "NoClerk", Rows, [[], row])

    def test_a_wrong_number_within_a_row(self):
        for count in [-1, 10, HUGE, -HUGE] + odd_things() + listed_things() + texts():
            refused(self, "NoClerk", Rows, [[count]])
            refused(self, "NoClerk", Rows, [[1, 2], [3, count]])
            refused(self, "NoClerk", Rows, [[count, 2], [3, 4]])

    def test_rows_of_unlike_length(self):
        for rows in ([[1], [1, 2]], [[1, 2], [1]], [[], [1]], [[1], []], [[1], [1], [1, 1]], [[1, 1], [1], [1, 1]]):
            refused(self, "NoClerk", Rows, rows)


class Sent(unittest.TestCase):
    def test_whole_rounds(self):
        for clerk, rows in samples():
            self.assertEqual(clerk.whole(), [sum(row[out] for row in rows) for out in range(len(rows[0]))])
        self.assertEqual(Rows(TABLE).whole(), [4, 10, 6])
        self.assertEqual(Deal(3).whole(), [1, 1, 1])
        self.assertEqual(Bundle(12).whole(), [1])
        self.assertEqual(Copy([]).whole(), [])

    def test_small_counts_from_each_state(self):
        for clerk, rows in samples():
            for state in range(len(rows)):
                for count in range(3 * len(rows) + 2):
                    self.assertEqual(clerk.sent(state, count), stepped(rows, state, count))

    def test_none(self):
        for clerk, rows in samples():
            for state in range(len(rows)):
                self.assertEqual(clerk.sent(state, 0), [0] * len(rows[0]))

    def test_one_is_the_row(self):
        for clerk, rows in samples():
            self.assertEqual([clerk.sent(state, 1) for state in range(len(rows))], rows)

    def test_great_counts(self):
        greats = numbers_in_turn(10, 0, 10 ** 60 - 1, seed=4) + [10 ** 60 - 1, 10 ** 59]
        for clerk, rows in samples():
            for state in range(len(rows)):
                for count in greats:
                    rounds, rest = divmod(count, len(rows))
                    head = stepped(rows, state, rest)
                    wanted = [rounds * sum(row[out] for row in rows) + head[out] for out in range(len(rows[0]))]
                    self.assertEqual(clerk.sent(state, count), wanted)

    def test_great_counts_as_written_out(self):
        third = int("3" * 59)
        self.assertEqual(Deal(3).sent(0, 10 ** 59), [third + 1, third, third])
        self.assertEqual(Deal(3).sent(2, 10 ** 59), [third, third, third + 1])
        self.assertEqual(Bundle(10).sent(0, 10 ** 59), [10 ** 58])
        self.assertEqual(Bundle(10).sent(9, 10 ** 59), [10 ** 58])
        self.assertEqual(Bundle(10).sent(9, 10 ** 59 + 1), [10 ** 58 + 1])
        self.assertEqual(Copy([9, 0]).sent(0, 10 ** 59), [9 * 10 ** 59, 0])

    def test_in_parts_as_in_one(self):
        counts = [0, 1, 5, 12, 13, 10 ** 20] + numbers_in_turn(4, 0, 10 ** 59, seed=5)
        for clerk, rows in samples():
            for state in range(len(rows)):
                for first in counts:
                    for later in counts:
                        behind = (state + first) % len(rows)
                        parts = zip(clerk.sent(state, first), clerk.sent(behind, later))
                        self.assertEqual(clerk.sent(state, first + later), [one + other for one, other in parts])


class Kept(unittest.TestCase):
    def test_counts_stay_as_they_were_and_are_not_kept(self):
        counts = [1, 0, 2]
        clerk = Copy(counts)
        clerk.sent(0, 5)
        self.assertEqual(counts, [1, 0, 2])
        counts[0] = 7
        counts.append(3)
        self.assertEqual((clerk.row(0), clerk.whole(), clerk.text()), ([1, 0, 2], [1, 0, 2], "copy 1,0,2"))

    def test_rows_stay_as_they_were_and_are_not_kept(self):
        rows = [[1, 0], [0, 2]]
        clerk = Rows(rows)
        clerk.sent(1, 5)
        self.assertEqual(rows, [[1, 0], [0, 2]])
        rows[0][0] = 7
        rows[1].append(3)
        rows.append([5, 5])
        self.assertEqual((clerk.period(), clerk.outs(), clerk.whole()), (2, 2, [1, 2]))
        self.assertEqual((clerk.row(0), clerk.row(1), clerk.sent(0, 3)), ([1, 0], [0, 2], [2, 2]))
        self.assertEqual(clerk.text(), "rows 1,0/0,2")

    def test_what_is_told_is_the_askers_own(self):
        for clerk, rows in samples():
            for told in (clerk.row(0), clerk.whole(), clerk.sent(0, 0), clerk.sent(0, len(rows)), clerk.sent(0, 1)):
                for place in range(len(told)):
                    told[place] = 99
                told.append(99)
            self.assertEqual([clerk.row(state) for state in range(len(rows))], rows)
            self.assertEqual(clerk.whole(), stepped(rows, 0, len(rows)))
            self.assertEqual(clerk.sent(0, 1), rows[0])

    def test_what_was_told_stays(self):
        clerk = Rows(TABLE)
        row, whole, sent = clerk.row(0), clerk.whole(), clerk.sent(2, 3)
        clerk.row(0), clerk.whole(), clerk.sent(1, 7)
        self.assertEqual((row, whole, sent), (TABLE[0], [4, 10, 6], [4, 1, 6]))

    def test_refused_lists_stay_as_they_were(self):
        rows = [[1, 0], [0, 10]]
        refused(self, "NoClerk", Rows, rows)
        self.assertEqual(rows, [[1, 0], [0, 10]])


if __name__ == "__main__":
    unittest.main()

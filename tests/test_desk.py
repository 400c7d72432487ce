"""The desk: each row with its answer (points 2 and 27)."""

import unittest

from dockethall.desk import Desk
from dockethall.errors import HallError
from dockethall.handling import handled
from dockethall.holding import parting
from dockethall.making import made
from dockethall.narrow import narrowed
from dockethall.notes import read, written
from dockethall.offices import Office
from dockethall.papers import is_unrest, paper
from dockethall.sums import read_sum
from dockethall.tallies import tally
from helper import at_desk, made_up, numbers_in_turn, told_by

FRONT = "door out; clerk front deal 2 at 0 to pack out; clerk pack bundle 3 at 0 to front; entry in front"
LATER = "door x; door y; clerk a rows 1,0/0,2 at 1 to x y; clerk b bundle 12 at 11 to a; entry in a; entry by b"
NEVER = "door x; clerk a copy 4 at 0 to b; clerk b bundle 4 at 3 to a; entry in a"


class Said(unittest.TestCase):
    def check(self, *rows):
        """Rows told one behind another to a new desk, each with the answer that it must have."""
        desk = Desk()
        for row, wanted in rows:
            told = desk.say(row)
            self.assertEqual((row, told, type(told)), (row, wanted, str))
        return desk


class Making(Said):
    def test_a_new_desk(self):
        self.check(("names", "-"), ("names", "-"))

    def test_office(self):
        self.check((f"office hall {FRONT}", "ok"), ("names", "hall"), ("show hall", FRONT), ("states hall", "0 0"),
                   ("desks hall", "0 0"),
                   ("out hall", "0"))
        self.check((f"office a {LATER}", "ok"), ("show a", LATER), ("states a", "1 11"), ("desks a", "0 0"),
                   ("out a", "0 0"))

    def test_any_name(self):
        for name in ("a", "z", "abcdef", "office", "names", "drop", "lay", "run", "ok"):
            self.check((f"office {name} {FRONT}", "ok"), ("names", name), (f"show {name}", FRONT),
                       (f"lay {name} in 2", "ok"),
                       (f"run {name}", "ran 3"), (f"drop {name}", "ok"), ("names", "-"))

    def test_made_up_offices(self):
        for seed in range(30):
            text = written(Office(*made_up(seed, 1 + seed % 5)))
            self.check((f"office hall {text}", "ok"), ("show hall", text))

    def test_sums(self):
        desk = self.check(("sums s in,by x = 2 (in + by) + [3 in : 1 / 4]; y = [by : 0 / 3]", "ok"), ("names", "s"),
                          ("out s", "0 0"),
                          ("lay s in 5", "ok"), ("lay s by 7", "ok"))
        sums = [("x", read_sum("2 (in + by) + [3 in : 1 / 4]")), ("y", read_sum("[by : 0 / 3]"))]
        one = made(["in", "by"], sums)
        self.assertEqual(desk.say("show s"), written(one))
        self.assertRegex(desk.say("run s"), "^ran [1-9][0-9]*$")
        self.assertEqual(desk.say("out s"), "28 2")

    def test_sums_of_one_to_six_entries_and_doors(self):
        for many in range(1, 7):
            names = ["a", "b", "in", "abcdef", "x", "zz"][:many]
            rows = [f"{door} = {k} {name}" for k, (door,
                                                   name) in enumerate(zip(["x", "b", "out", "to", "names", "s"],
                                                                          names))]
            desk = self.check((f"sums s {','.join(names)} {'; '.join(rows)}", "ok"))
            for name in names:
                desk.say(f"lay s {name} 10")
            desk.say("run s")
            self.assertEqual(desk.say("out s"), " ".join(str(10 * k) for k in range(many)))

    def test_narrow(self):
        desk = self.check((f"office wide {LATER}", "ok"), ("lay wide in 3", "ok"), ("step wide a", "ok"),
                          ("narrow thin wide", "ok"),
                          ("names", "thin wide"), ("desks wide", "2 0"), ("out wide", "0 2"), ("out thin", "0 0"))
        one = narrowed(read(LATER))
        # The narrow one is at its beginning, whatever was done in the office.
        self.assertEqual(desk.say("show thin"), written(one))
        self.assertEqual(desk.say("states thin"), " ".join(str(state) for state in one.begin()))
        self.assertEqual(desk.say("desks thin"), " ".join("0" * one.many()))

    def test_narrow_with_one_name_twice(self):
        desk = self.check((f"office a {LATER}", "ok"), ("lay a in 3", "ok"), ("narrow a a", "ok"), ("names", "a"))
        one = narrowed(read(LATER))
        self.assertEqual(desk.say("show a"), written(one))
        self.assertEqual(desk.say("desks a"), " ".join("0" * one.many()))

    def test_in_the_old_ones_stead(self):
        for row in (f"office a {LATER}", "sums a in,by x = in; y = by", "narrow a b"):
            desk = at_desk(f"office b {LATER}", f"office a {FRONT}", "lay a in 5", "step a front", "lay b in 1")
            kept = told_by(desk)[1]
            self.assertEqual(desk.say(row), "ok")
            self.assertEqual(desk.say("names"), "a b")
            self.assertNotEqual(desk.say("show a"), FRONT)
            self.assertEqual((desk.say("desks a").strip("0 "), desk.say("out a")), ("", "0 0"))
            self.assertEqual(told_by(desk)[1], kept)

    def test_the_same_office_again_begins_again(self):
        self.check((f"office a {FRONT}", "ok"), ("lay a in 5", "ok"), ("step a front", "ok"),
                   (f"office a {FRONT}", "ok"),
                   ("desks a", "0 0"), ("states a", "0 0"), ("out a", "0"))

    def test_drop(self):
        desk = self.check((f"office a {FRONT}", "ok"), (f"office b {FRONT}", "ok"), ("drop a", "ok"), ("names", "b"),
                          ("drop b", "ok"),
                          ("names", "-"))
        self.assertEqual((desk.say(f"office a {LATER}"), desk.say("states a")), ("ok", "1 11"))

    def test_the_narrow_one_stays_where_the_office_is_dropped(self):
        self.check((f"office a {FRONT}", "ok"), ("narrow b a", "ok"), ("drop a", "ok"), ("lay b in 5", "ok"),
                   ("run b", "ran 21"),
                   ("out b", "3"))

    def test_names_sorted(self):
        rows = [(f"office {name} {FRONT}", "ok") for name in ("b", "abc", "z", "ab", "aa", "b", "bb")]
        self.check(*rows, ("names", "aa ab abc b bb z"), ("drop abc", "ok"), ("names", "aa ab b bb z"))


class Working(Said):
    def test_lay(self):
        self.check((f"office a {LATER}", "ok"), ("lay a in 3", "ok"), ("desks a", "3 0"), ("lay a by 10", "ok"),
                   ("desks a", "3 10"),
                   ("lay a in 4", "ok"), ("desks a", "7 10"), ("lay a in 0", "ok"), ("desks a", "7 10"),
                   ("states a", "1 11"),
                   ("out a", "0 0"))

    def test_lay_by_entries_that_are_called_as_others_are(self):
        text = "door x; clerk a copy 1 at 0 to x; clerk b copy 1 at 0 to x; entry b a; entry x b"
        self.check((f"office a {text}", "ok"), ("lay a b 2", "ok"), ("lay a x 3", "ok"), ("desks a", "2 3"),
                   ("step a b", "ok"),
                   ("desks a", "2 2"))

    def test_lay_by_two_entries_of_one_clerk(self):
        text = "door x; clerk a copy 1 at 0 to x; entry in a; entry by a"
        self.check((f"office a {text}", "ok"), ("lay a in 2", "ok"), ("lay a by 3", "ok"), ("desks a", "5"))

    def test_counts_to_their_bound(self):
        self.check((f"office a {LATER}", "ok"), ("lay a in 1000000000", "ok"), ("lay a by 999999999", "ok"),
                   ("lay a by 1", "ok"),
                   ("lay a in 0", "ok"), ("desks a", "1000000000 1000000000"))

    def test_step(self):
        self.check((f"office a {LATER}", "ok"), ("lay a by 2", "ok"), ("step a b", "ok"), ("desks a", "1 1"),
                   ("states a", "1 0"),
                   ("step a a", "ok"), ("desks a", "0 1"), ("states a", "0 0"), ("out a", "0 2"), ("step a b", "ok"),
                   ("desks a", "0 0"), ("states a", "0 1"), ("lay a in 2", "ok"), ("step a a", "ok"), ("out a", "1 2"),
                   ("step a a", "ok"), ("out a", "1 4"))

    def test_steps_are_handlings(self):
        for seed in range(12):
            one = Office(*made_up(seed, 4))
            desk = at_desk(f"office a {written(one)}", f"lay a {one.entries()[0][0]} 9")
            states, desks, out = one.begin(), [0] * 4, [0] * len(one.doors())
            desks[one.entries()[0][1]] += 9
            for number in numbers_in_turn(40, 0, 3, seed):
                if desks[number] > 0:
                    states, desks, more = handled(one, states, desks, number)
                    out = [early + late for early, late in zip(out, more)]
                    self.assertEqual(desk.say(f"step a {one.names()[number]}"), "ok")
                    self.assertEqual([desk.say(f"{word} a") for word in ("states", "desks", "out")],
                                     [" ".join(map(str, told)) for told in (states, desks, out)])

    def test_run_tells_the_handlings_of_this_run_alone(self):
        self.check((f"office a {FRONT}", "ok"), ("run a", "ran 0"), ("lay a in 5", "ok"), ("run a", "ran 9"),
                   ("out a", "3"),
                   ("run a", "ran 0"), ("lay a in 5", "ok"), ("step a front", "ok"), ("run a", "ran 8"), ("out a", "6"),
                   ("desks a", "0 0"), ("states a", "0 0"), ("lay a in 1", "ok"), ("run a", "ran 2"),
                   ("states a", "1 1"),
                   ("desks a", "0 0"), ("out a", "6"), ("lay a in 1", "ok"), ("run a", "ran 1"), ("states a", "0 1"),
                   ("out a", "7"))

    def test_run_of_many_dockets(self):
        self.check((f"office a {FRONT}", "ok"), ("lay a in 1000000000", "ok"), ("run a", "ran 1800000000"),
                   ("out a", "600000000"),
                   ("lay a in 1000000000", "ok"), ("run a", "ran 1800000000"), ("out a", "1200000000"),
                   ("states a", "0 0"))

    def test_run_is_a_tally(self):
        compared = 0
        for seed in range(40):
            one = Office(*made_up(seed, 4))
            desk = at_desk(f"office a {written(one)}")
            states, out = one.begin(), [0] * len(one.doors())
            for count in (1, 2, 1000, 10 ** 9):
                desks = [0] * 4
                desks[one.entries()[-1][1]] += count
                try:
                    counts, states, more = tally(one, states, desks)
                except HallError:
                    break
                out = [early + late for early, late in zip(out, more)]
                desk.say(f"lay a {one.entries()[-1][0]} {count}")
                self.assertEqual(desk.say("run a"), f"ran {sum(counts)}")
                self.assertEqual([desk.say(f"{word} a") for word in ("states", "desks", "out")],
                                 [" ".join(map(str, told)) for told in (states, [0] * 4, out)])
                compared += 1
        self.assertGreater(compared, 50)

    def test_clear(self):
        self.check((f"office a {LATER}", "ok"), ("lay a by 3", "ok"), ("step a b", "ok"), ("step a a", "ok"),
                   ("desks a", "0 2"),
                   ("states a", "0 0"), ("out a", "0 2"), ("clear a", "ok"), ("desks a", "0 0"), ("states a", "1 11"),
                   ("out a", "0 0"),
                   ("lay a by 1", "ok"), ("run a", "ran 2"), ("out a", "0 2"), ("clear a", "ok"), ("clear a", "ok"),
                   ("out a", "0 0"))

    def test_out_is_what_went_out_since_the_last_clear(self):
        self.check((f"office a {FRONT}", "ok"), ("lay a in 5", "ok"), ("run a", "ran 9"), ("out a", "3"),
                   ("clear a", "ok"),
                   ("out a", "0"), ("lay a in 2", "ok"), ("step a front", "ok"), ("step a front", "ok"), ("out a", "1"),
                   ("run a", "ran 1"),
                   ("out a", "1"))

    def test_one_office_alone_is_worked(self):
        desk = at_desk(f"office a {LATER}", f"office b {LATER}", "narrow c a", "lay a in 3", "lay b by 2")
        for row, place in (("lay b in 1", 1), ("step a a", 0), ("run b", 1), ("clear a", 0), ("lay c by 1", 2),
                           ("run c", 2)):
            before = told_by(desk)
            desk.say(row)
            after = told_by(desk)
            self.assertEqual([each == other for each, other in zip(before, after)],
                             [number != place for number in range(3)], row)


class Asking(Said):
    def test_asking_changes_nothing(self):
        desk = at_desk(f"office a {LATER}", f"office b {FRONT}", "narrow c a", "lay a in 3", "step a a", "lay b in 2")
        before = told_by(desk)
        for row in ("desks a", "states a", "out a", "paper a", "show a", "names", "alike a c", "alike c a", "alike a a",
                    "paper b", "show c"):
            self.assertEqual(desk.say(row), desk.say(row))
            self.assertEqual(told_by(desk), before)

    def test_paper_of_rest(self):
        self.check((f"office a {FRONT}", "ok"), ("paper a", "rest 9/5 8/5"), ("lay a in 3", "ok"),
                   ("step a front", "ok"),
                   ("paper a", "rest 9/5 8/5"), (f"office a {LATER}", "ok"), ("paper a", "rest 1 13/12"),
                   ("office a door x; clerk a copy - at 0 to; entry in a", "ok"), ("paper a", "rest 1"),
                   ("office a door x; clerk a bundle 2 at 0 to a; entry in a", "ok"), ("paper a", "rest 2"))

    def test_paper_of_unrest(self):
        self.check(("office a door x; clerk a copy 1 at 0 to a; entry in a", "ok"))
        desk = self.check((f"office a {NEVER}", "ok"))
        told = desk.say("paper a").split(" ")
        self.assertEqual(told[0], "unrest")
        self.assertTrue(is_unrest(read(NEVER), [int(word) for word in told[1:]]))

    def test_papers_of_made_up_offices(self):
        for seed in range(40):
            one = Office(*made_up(seed, 1 + seed % 4, 4))
            word, numbers = paper(one)
            if word == "rest":
                numbers = [f"{top}/{bottom}" if bottom > 1 else f"{top}" for top, bottom in numbers]
            self.check((f"office a {written(one)}", "ok"),
                       ("paper a", " ".join([word] + [str(number) for number in numbers])))

    def test_alike(self):
        two = "door x; clerk a bundle 2 at 0 to b; clerk b bundle 3 at 0 to x; entry in a"
        self.check((f"office two {two}", "ok"), ("office six door x; clerk a bundle 6 at 0 to x; entry in a", "ok"),
                   ("office three door x; clerk a bundle 3 at 0 to x; entry in a", "ok"), ("alike two six", "alike"),
                   ("alike six two", "alike"), ("alike two two", "alike"), ("alike two three", "parted in in in"),
                   ("alike three six", "parted in in in"))

    def test_parted_with_the_row_of_entries(self):
        text = "door x; door y; clerk a bundle 2 at {} to x; clerk b copy 1 at 0 to {}; entry in a; entry by b"
        self.check((f"office a {text.format(0, 'y')}", "ok"), (f"office b {text.format(0, 'x')}", "ok"),
                   ("alike a b", "parted by"),
                   (f"office b {text.format(1, 'y')}", "ok"), ("alike a b", "parted in"), ("alike b a", "parted in"),
                   (f"office b {text.format(0, 'a')}", "ok"), ("alike a b", "parted by"),
                   (f"office a {text.format(0, 'x').replace('bundle 2', 'bundle 3')}", "ok"),
                   (f"office b {text.format(0, 'x')}", "ok"),
                   ("alike a b", "parted in in"))

    def test_alike_from_their_beginnings(self):
        self.check((f"office a {LATER}", "ok"), (f"office b {LATER}", "ok"), ("lay a in 1", "ok"), ("run a", "ran 1"),
                   ("lay a by 1", "ok"), ("alike a b", "alike"), ("alike b a", "alike"))

    def test_partings_of_made_up_offices(self):
        found = []
        for seed in range(60):
            one, other = Office(*made_up(seed, 2)), Office(*made_up(seed, 2, 2))
            try:
                row = parting(one, other)
            except HallError:
                continue
            wanted = "alike" if row is None else " ".join(["parted"] + row)
            self.check((f"office a {written(one)}", "ok"), (f"office b {written(other)}", "ok"), ("alike a b", wanted))
            found.append(row is None)
        self.assertTrue(found.count(True) > 3 and found.count(False) > 3, found)

    def test_shown_and_read_again(self):
        desk = at_desk("sums a in,by x = 2 in + [by : 1 / 5]; y = [in + by : 0 / 3]", "narrow b a", f"office c {LATER}")
        for name in "abc":
            text = desk.say(f"show {name}")
            self.assertEqual(desk.say(f"office again {text}"), "ok")
            self.assertEqual(desk.say("show again"), text)
            self.assertEqual(desk.say(f"alike {name} again"), "alike")

    def test_show_tells_the_beginning(self):
        self.check((f"office a {LATER}", "ok"), ("lay a in 3", "ok"), ("run a", "ran 3"), ("states a", "0 11"),
                   ("show a", LATER))


class Apart(unittest.TestCase):
    def test_two_desks_have_nothing_in_common(self):
        one, other = Desk(), Desk()
        one.say(f"office a {LATER}")
        self.assertEqual(other.say("names"), "-")
        other.say(f"office a {FRONT}")
        one.say("lay a in 5")
        self.assertEqual((one.say("desks a"), other.say("desks a")), ("5 0", "0 0"))
        other.say("lay a in 2")
        other.say("run a")
        self.assertEqual((one.say("desks a"), one.say("out a"), other.say("out a")), ("5 0", "0 0", "1"))
        one.say("drop a")
        self.assertEqual((one.say("names"), other.say("names"), Desk().say("names")), ("-", "a", "-"))

    def test_the_same_rows_have_the_same_answers(self):
        rows = ["sums s in,by x = 2 in + [by : 1 / 5]; y = [in + by : 0 / 3]", "narrow n s", "lay n in 77",
                "lay s by 1000000", "run s",
                "run n", "out s", "out n", "paper n", "alike s n", "states n", "show n"]
        first, second = Desk(), Desk()
        self.assertEqual([first.say(row) for row in rows], [second.say(row) for row in rows])


if __name__ == "__main__":
    unittest.main()

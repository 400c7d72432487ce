"""The desk: offices kept by names, and rows of words by which they are made, worked and asked."""

from dockethall.clerks import is_number, sums_of
from dockethall.errors import NoCount, NoName, NoRow, NoSum
from dockethall.handling import handled, nothing_out
from dockethall.holding import parting
from dockethall.making import made
from dockethall.narrow import narrowed
from dockethall.notes import read, written
from dockethall.offices import is_name
from dockethall.papers import paper
from dockethall.sums import read_sum
from dockethall.tallies import tally

# How many words a row has, by its first one.
LENGTHS = {
    "office": 3, "sums": 4, "narrow": 3, "drop": 2, "lay": 4, "step": 3, "run": 2, "clear": 2, "desks": 2, "states": 2,
    "out": 2, "paper": 2, "alike": 3, "show": 2, "names": 1,
}
# The last word of these is all that follows.
WITH_TEXT = ("office", "sums")
MAKING = ("office", "sums", "narrow")
WORKING = ("lay", "step", "run", "clear")
MOST_DOCKETS = 1000000000
MOST_FIGURES = 10


def words_of(row):
    if not isinstance(row, str):
        raise NoRow("a row is a text")
    first = row.partition(" ")[0]
    if first not in LENGTHS:
        raise NoRow("the first word is none of a row")
    many = LENGTHS[first]
    words = row.split(" ", many - 1) if first in WITH_TEXT else row.split(" ")
    if len(words) != many:
        raise NoRow("the row has too few or too many words")
    return words


def read_count(text):
    """Whether it is too great is looked at with what lies there already."""
    if not is_number(text, MOST_FIGURES):
        raise NoCount("a count is written in figures, without a nought ahead")
    return int(text)


def read_door_sum(row):
    """A tuple (name of a door, sum), or None, which stands as a tuple that is not as told."""
    halves = row.partition(" = ")
    try:
        return (halves[0], read_sum(halves[2]))
    except NoSum:
        return None


def read_sums(entries, text):
    return made(entries.split(","), [read_door_sum(row) for row in text.split("; ")])


def in_words(words):
    return " ".join([str(word) for word in words])


def fraction_text(one):
    if one[1] == 1:
        return str(one[0])
    return str(one[0]) + "/" + str(one[1])


def paper_text(told):
    if told[0] == "rest":
        return in_words(["rest"] + [fraction_text(price) for price in told[1]])
    return in_words(["unrest"] + told[1])


def alike_text(row):
    if row is None:
        return "alike"
    return in_words(["parted"] + row)


class Work:
    """An office, with what lies in it and what went out of it."""

    def __init__(self, office):
        self.office = office
        self.start()

    def start(self):
        self.states = self.office.begin()
        self.desks = [0 for state in self.states]
        self.out = nothing_out(self.office)

    def lay(self, entry, count):
        places = dict(self.office.entries())
        if entry not in places:
            raise NoName("the office has no such entry")
        k = places[entry]
        dockets = self.desks[k] + read_count(count)
        if dockets > MOST_DOCKETS:
            raise NoCount("too many dockets would lie on that desk")
        self.desks[k] = dockets

    def step(self, name):
        names = self.office.names()
        if name not in names:
            raise NoName("the office has no such clerk")
        told = handled(self.office, self.states, self.desks, names.index(name))
        self.states = told[0]
        self.desks = told[1]
        self.out = sums_of(self.out, told[2])

    def run(self):
        """Gives back how many handlings were done."""
        told = tally(self.office, self.states, self.desks)
        self.states = told[1]
        self.desks = [0 for state in self.states]
        self.out = sums_of(self.out, told[2])
        return sum(told[0])

    def do(self, words):
        if words[0] == "run":
            return "ran " + str(self.run())
        if words[0] == "lay":
            self.lay(words[2], words[3])
        if words[0] == "step":
            self.step(words[2])
        if words[0] == "clear":
            self.start()
        return "ok"

    def tell(self, word):
        if word == "desks":
            return in_words(self.desks)
        if word == "states":
            return in_words(self.states)
        if word == "out":
            return in_words(self.out)
        if word == "paper":
            return paper_text(paper(self.office))
        return written(self.office)


class Desk:
    """Keeps what it is told to, by names; what is refused changes nothing of it."""

    def __init__(self):
        self.kept = {}

    def work_of(self, name):
        if name not in self.kept:
            raise NoName("nothing is kept by this name")
        return self.kept[name]

    def office_by(self, words):
        if words[0] == "office":
            return read(words[2])
        if words[0] == "sums":
            return read_sums(words[2], words[3])
        return narrowed(self.work_of(words[2]).office)

    def keep(self, words):
        if not is_name(words[1]):
            raise NoName("an office is kept by a name")
        self.kept[words[1]] = Work(self.office_by(words))

    def names_text(self):
        if len(self.kept) == 0:
            return "-"
        return in_words(sorted(self.kept))

    def say(self, row):
        words = words_of(row)
        if words[0] == "names":
            return self.names_text()
        if words[0] in MAKING:
            self.keep(words)
            return "ok"
        work = self.work_of(words[1])
        if words[0] == "alike":
            return alike_text(parting(work.office, self.work_of(words[2]).office))
        if words[0] == "drop":
            self.kept.pop(words[1])
            return "ok"
        if words[0] in WORKING:
            return work.do(words)
        return work.tell(words[0])
